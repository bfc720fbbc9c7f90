package serve_test

import (
	"cmp"
	"maps"
	"slices"
	"testing"

	"spate/api"
	"spate/codec"
	"spate/serve"
)

// story goes over a history line by line, one operation behind the other, with plain maps: no tasks, no locks, no shards, no versions.
type story struct {
	t     *testing.T
	c     api.Config
	cells map[api.Cell]api.Agg
	marks map[[2]int]int64 // by operator and source
	now   int
	seals map[int]map[api.Cell]api.Agg
	holds map[int]map[int]bool // by session and epoch
	stats api.Stats

	asked  map[int]api.Request
	answer map[int]api.Response // what a session is to be told
	stage  map[int]int          // of a session: the kind of its last line
	no     map[int]int
}

func newStory(t *testing.T, c api.Config) *story {
	return &story{
		t: t, c: c, now: 1,
		cells: map[api.Cell]api.Agg{}, marks: map[[2]int]int64{}, seals: map[int]map[api.Cell]api.Agg{},
		holds: map[int]map[int]bool{}, asked: map[int]api.Request{}, answer: map[int]api.Response{},
		stage: map[int]int{}, no: map[int]int{},
	}
}

func (w *story) operator(key string) int { return operatorOf(key, w.c.Operators) }

func (w *story) least(operator int) int64 {
	least := int64(api.MaxTime)
	for source := range w.c.Sources {
		m, there := w.marks[[2]int{operator, source}]
		if !there {
			return api.NoMark
		}
		least = min(least, m)
	}
	return least
}

func (w *story) closed(operator int, c api.Cell) bool {
	v := w.c.Views[c.View]
	return c.Start+v.Size+v.Late <= w.least(operator)
}

// due are the cells that are there and closed at an operator, in order.
func (w *story) due(operator int) []api.Cell {
	var l []api.Cell
	for c := range w.cells {
		if w.operator(c.Key) == operator && w.closed(operator, c) {
			l = append(l, c)
		}
	}
	slices.SortFunc(l, order)
	return l
}

func order(a, b api.Cell) int {
	return cmp.Or(cmp.Compare(a.View, b.View), cmp.Compare(a.Key, b.Key), cmp.Compare(a.Start, b.Start))
}

// windows are the cells of an event, also the closed ones.
func (w *story) windows(x api.Item) []api.Cell {
	var l []api.Cell
	for i, v := range w.c.Views {
		for s := x.Time - v.Size + 1; s <= x.Time; s++ {
			if s%v.Slide == 0 {
				l = append(l, api.Cell{View: i, Key: x.Key, Start: s})
			}
		}
	}
	return l
}

func (w *story) line(l api.Line) {
	w.t.Helper()
	switch l.Kind {
	case api.HEvent:
		w.event(l)
	case api.HMark:
		if due := w.due(l.Who); len(due) > 0 {
			w.t.Fatalf("%+v: %v are due", l, due)
		}
		at := [2]int{l.Who, l.From}
		if m, there := w.marks[at]; !there || m < l.Item.Time {
			w.marks[at] = l.Item.Time
		}
	case api.HKill:
		if due := w.due(l.Who); len(due) == 0 || due[0] != l.Cell {
			w.t.Fatalf("%+v: %v are due", l, due)
		}
		delete(w.cells, l.Cell)
	default:
		w.session(l)
	}
}

func (w *story) event(l api.Line) {
	w.t.Helper()
	if due := w.due(l.Who); len(due) > 0 || l.Who != w.operator(l.Item.Key) {
		w.t.Fatalf("%+v: %v are due", l, due)
	}
	all := w.windows(l.Item)
	open := slices.DeleteFunc(slices.Clone(all), func(c api.Cell) bool { return w.closed(l.Who, c) })
	fate := api.FTaken
	if len(all) > 0 && len(open) == 0 {
		fate = api.FLate
	}
	next := map[api.Cell]api.Agg{}
	for _, c := range open {
		a, v := w.cells[c], l.Item.Value
		if sum := a.Sum + v; (sum > a.Sum) != (v > 0) && v != 0 {
			fate = api.FOverflow
		}
		if a.Count == 0 {
			a.Min, a.Max = v, v
		}
		next[c] = api.Agg{Count: a.Count + 1, Sum: a.Sum + v, Min: min(a.Min, v), Max: max(a.Max, v)}
	}
	if l.Fate == api.FFull && fate == api.FTaken && len(open) > 0 {
		fate = api.FFull
	}
	if l.Fate != fate {
		w.t.Fatalf("%+v: its fate is %d", l, fate)
	}
	switch fate {
	case api.FTaken:
		w.stats.Taken++
		maps.Copy(w.cells, next)
	case api.FLate:
		w.stats.Late++
	case api.FOverflow:
		w.stats.Overflow++
	case api.FFull:
		w.stats.Full++
	}
}

// session holds the lines of a session to their form, and to what they are to say.
func (w *story) session(l api.Line) {
	w.t.Helper()
	ahead := map[int][]int{
		api.HOpen: {0}, api.HAsk: {api.HOpen, api.HAnswer}, api.HPoint: {api.HAsk}, api.HAnswer: {api.HPoint},
		api.HBad: {api.HOpen, api.HAnswer}, api.HLeave: {api.HOpen, api.HPoint, api.HAnswer, api.HBad},
	}
	if !slices.Contains(ahead[l.Kind], w.stage[l.Who]) {
		w.t.Fatalf("%+v stands behind one of kind %d", l, w.stage[l.Who])
	}
	if l.No != w.no[l.Who] && (l.Kind == api.HAsk || l.Kind == api.HPoint || l.Kind == api.HAnswer) {
		w.t.Fatalf("%+v: want No %d", l, w.no[l.Who])
	}
	w.stage[l.Who] = l.Kind
	switch l.Kind {
	case api.HAsk:
		w.asked[l.Who] = l.Request
	case api.HPoint:
		w.answer[l.Who] = w.ask(l.Who, w.asked[l.Who], api.Errno(l.Fate))
	case api.HAnswer:
		if !codec.SameResponse(l.Response, w.answer[l.Who]) {
			w.t.Fatalf("%+v: answers %+v; want %+v", l, w.asked[l.Who], w.answer[l.Who])
		}
		w.no[l.Who]++
	case api.HLeave:
		delete(w.holds, l.Who)
	}
}

func (w *story) isHeld(epoch int) bool {
	for _, l := range w.holds {
		if l[epoch] {
			return true
		}
	}
	return false
}

func (w *story) seal() int {
	w.seals[w.now] = maps.Clone(w.cells)
	w.now++
	return w.now - 1
}

func (w *story) ask(session int, q api.Request, refused api.Errno) api.Response {
	if refused != api.OK {
		return bad(q.Id, refused)
	}
	own := w.holds[session]
	if own == nil {
		own = map[int]bool{}
		w.holds[session] = own
	}
	switch q.Kind {
	case api.RGet, api.RMulti, api.RScan:
		if q.Epoch != 0 && !own[q.Epoch] {
			return bad(q.Id, api.ErrEpoch)
		}
		return w.read(q)
	case api.RPin:
		if len(own) >= w.c.Pins {
			return bad(q.Id, api.ErrPins)
		}
		e := w.seal()
		own[e] = true
		return sealed(q.Id, e)
	case api.RJoin:
		switch {
		case !w.isHeld(q.Epoch):
			return bad(q.Id, api.ErrEpoch)
		case !own[q.Epoch] && len(own) >= w.c.Pins:
			return bad(q.Id, api.ErrPins)
		}
		own[q.Epoch] = true
		return done(q.Id)
	case api.RRelease:
		if !own[q.Epoch] {
			return bad(q.Id, api.ErrEpoch)
		}
		delete(own, q.Epoch)
		return done(q.Id)
	}
	x := w.stats
	x.Cells, x.Now = len(w.cells), w.now
	return counts(q.Id, x)
}

func (w *story) read(q api.Request) api.Response {
	at := w.cells
	if q.Epoch != 0 {
		at = w.seals[q.Epoch]
	}
	var l []api.Row
	if q.Kind != api.RScan {
		for _, c := range q.Cells {
			l = append(l, api.Row{Cell: c, Agg: at[c]})
		}
		return rows(q.Id, l...)
	}
	for _, c := range slices.SortedFunc(maps.Keys(at), order) {
		if order(q.From, c) <= 0 && order(c, q.To) < 0 && len(l) < q.Limit {
			l = append(l, api.Row{Cell: c, Agg: at[c]})
		}
	}
	if q.Epoch == 0 {
		w.seal()
	}
	return rows(q.Id, l...)
}

// same asks for what a server is to tell of the map and the epochs, if none of its operations is half done.
func (w *story) same(s *serve.Server) {
	w.t.Helper()
	var l []api.Row
	for _, c := range slices.SortedFunc(maps.Keys(w.cells), order) {
		l = append(l, api.Row{Cell: c, Agg: w.cells[c]})
	}
	if got := s.Map(); !slices.Equal(got, l) {
		w.t.Fatalf("Map: %v; want %v", got, l)
	}
	held := map[int]bool{}
	for _, own := range w.holds {
		for e := range own {
			held[e] = true
		}
	}
	if now, n, _ := s.Book(); now != w.now || n < len(held) {
		w.t.Fatalf("Book: %d, %d; want %d, %d at least", now, n, w.now, len(held))
	}
}
