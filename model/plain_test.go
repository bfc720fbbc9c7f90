package model_test

import (
	"maps"
	"math"
	"math/big"
	"math/rand/v2"
	"slices"
	"testing"

	"spate/api"
	"spate/codec"
	"spate/model"
)

// plain is the likeness of a model: it keeps all that sources told and all values of each cell that is there, and asks the document's words by numbers of any length.
type plain struct {
	c      api.Config
	told   [][][]int64 // by operator and source
	values map[api.Cell][]int64
	seals  map[int][]api.Row
	holds  map[hold]bool
	fates  map[int]int
	now    int
	at     map[string]int // the operators of keys
}

type hold struct{ session, epoch int }

func newPlain(c api.Config) *plain {
	p := &plain{c: c, values: map[api.Cell][]int64{}, seals: map[int][]api.Row{}, holds: map[hold]bool{}, fates: map[int]int{}, now: 1, at: map[string]int{}}
	for range c.Operators {
		p.told = append(p.told, make([][]int64, c.Sources))
	}
	return p
}

func (p *plain) twin() *plain {
	twin := *p
	twin.told = nil
	for _, told := range p.told {
		all := make([][]int64, len(told))
		for source := range told {
			all[source] = slices.Clone(told[source])
		}
		twin.told = append(twin.told, all)
	}
	twin.values, twin.seals, twin.holds, twin.fates = maps.Clone(p.values), maps.Clone(p.seals), maps.Clone(p.holds), maps.Clone(p.fates)
	return &twin
}

func (p *plain) operator(key string) int {
	operator, known := p.at[key]
	if !known {
		operator = operatorOf(key, p.c.Operators)
		p.at[key] = operator
	}
	return operator
}

func (p *plain) least(operator int) int64 {
	var all []int64
	for _, told := range p.told[operator] {
		all = append(all, slices.Max(append([]int64{-1 << 62}, told...)))
	}
	return slices.Min(all)
}

func (p *plain) isClosed(c api.Cell) bool {
	v := p.c.Views[c.View]
	end := new(big.Int).Add(big.NewInt(c.Start), big.NewInt(v.Size))
	return end.Add(end, big.NewInt(v.Late)).Cmp(big.NewInt(p.least(p.operator(c.Key)))) <= 0
}

// due are the cells that are due at an operator, in order.
func (p *plain) due(operator int) []api.Cell {
	var all []api.Cell
	for c := range p.values {
		if p.operator(c.Key) == operator && p.isClosed(c) {
			all = append(all, c)
		}
	}
	return ordered(all)
}

// ordered tells cells in W3's order.
func ordered(cells []api.Cell) []api.Cell {
	all := slices.Clone(cells)
	slices.SortFunc(all, func(a, b api.Cell) int {
		switch {
		case a.View != b.View:
			return a.View - b.View
		case a.Key != b.Key:
			return slices.Compare([]byte(a.Key), []byte(b.Key))
		case a.Start < b.Start:
			return -1
		case a.Start > b.Start:
			return 1
		}
		return 0
	})
	return all
}

// startsOf steps from a multiple of Slide that is far enough back.
func startsOf(v api.View, time int64) []int64 {
	slide, size, at := big.NewInt(v.Slide), big.NewInt(v.Size), big.NewInt(time)
	s := new(big.Int).Sub(at, size)
	// Div is Euclid's: the quotient is cut downwards.
	s.Mul(s.Div(s, slide), slide)
	var all []int64
	for ; s.Cmp(at) <= 0; s.Add(s, slide) {
		if end := new(big.Int).Add(s, size); at.Cmp(end) < 0 {
			all = append(all, s.Int64())
		}
	}
	return all
}

// windows are an event's cells: those that are open, and how many are closed.
func (p *plain) windows(x api.Item) (open []api.Cell, closed int) {
	for n, v := range p.c.Views {
		for _, start := range startsOf(v, x.Time) {
			c := api.Cell{View: n, Key: x.Key, Start: start}
			if p.isClosed(c) {
				closed++
			} else {
				open = append(open, c)
			}
		}
	}
	return open, closed
}

func fits(values []int64) bool {
	sum := new(big.Int)
	for _, v := range values {
		sum.Add(sum, big.NewInt(v))
	}
	return sum.IsInt64()
}

func isTime(time int64) bool { return -1<<60 <= time && time <= 1<<60 }

func (p *plain) event(x api.Item, full bool) (int, api.Errno) {
	if x.Mark {
		return 0, api.ErrArg
	}
	if x.Key == "" || len(x.Key) > 32 {
		return 0, api.ErrKey
	}
	if !isTime(x.Time) {
		return 0, api.ErrTime
	}
	if len(p.due(p.operator(x.Key))) > 0 {
		return 0, api.ErrOrder
	}
	open, closed := p.windows(x)
	fate := api.FTaken
	if closed > 0 && len(open) == 0 {
		fate = api.FLate
	}
	for _, c := range open {
		if !fits(append(slices.Clone(p.values[c]), x.Value)) {
			fate = api.FOverflow
		}
	}
	if full {
		if fate != api.FTaken || len(open) == 0 {
			return 0, api.ErrPoint
		}
		fate = api.FFull
	}
	if fate == api.FTaken {
		for _, c := range open {
			p.values[c] = append(slices.Clone(p.values[c]), x.Value)
		}
	}
	p.fates[fate]++
	return fate, api.OK
}

func (p *plain) mark(operator, source int, time int64) api.Errno {
	switch {
	case operator < 0 || operator >= p.c.Operators || source < 0 || source >= p.c.Sources:
		return api.ErrArg
	case !isTime(time):
		return api.ErrTime
	case len(p.due(operator)) > 0:
		return api.ErrOrder
	}
	p.told[operator][source] = append(p.told[operator][source], time)
	return api.OK
}

func (p *plain) kill(c api.Cell) api.Errno {
	due := p.due(p.operator(c.Key))
	switch slices.Index(due, c) {
	case -1:
		return api.ErrPoint
	case 0:
		delete(p.values, c)
		return api.OK
	}
	return api.ErrOrder
}

func (p *plain) rows() []api.Row {
	var cells []api.Cell
	for c := range p.values {
		cells = append(cells, c)
	}
	var all []api.Row
	for _, c := range ordered(cells) {
		all = append(all, rowOf(c, p.values[c]))
	}
	return all
}

func (p *plain) stats() api.Stats {
	return api.Stats{
		Taken: p.fates[api.FTaken], Late: p.fates[api.FLate], Overflow: p.fates[api.FOverflow], Full: p.fates[api.FFull],
		Cells: len(p.values), Now: p.now,
	}
}

func (p *plain) heldBySome(epoch int) bool {
	for h := range p.holds {
		if h.epoch == epoch {
			return true
		}
	}
	return false
}

func (p *plain) pins(session int) int {
	n := 0
	for h := range p.holds {
		if h.session == session {
			n++
		}
	}
	return n
}

func (p *plain) sealed(epoch int) ([]api.Row, bool) {
	if !p.heldBySome(epoch) {
		return nil, false
	}
	return p.seals[epoch], true
}

func (p *plain) leave(session int) int {
	n := p.pins(session)
	for h := range p.holds {
		if h.session == session {
			delete(p.holds, h)
		}
	}
	return n
}

func (p *plain) ask(session int, q api.Request, refused api.Errno) (api.Response, api.Errno) {
	if session < 1 || session > 64 {
		return api.Response{}, api.ErrArg
	}
	if errno := codec.CheckRequest(q); errno != api.OK {
		return api.Response{}, errno
	}
	if refused != api.OK && refused != api.ErrBusy && refused != api.ErrDown {
		return api.Response{}, api.ErrArg
	}
	if refused != api.OK {
		return bad(q.Id, refused), api.OK
	}
	if q.Kind <= api.RScan {
		return p.read(session, q), api.OK
	}
	return p.keep(session, q), api.OK
}

func (p *plain) read(session int, q api.Request) api.Response {
	all := p.rows()
	if q.Epoch != 0 {
		if !p.holds[hold{session, q.Epoch}] {
			return bad(q.Id, api.ErrEpoch)
		}
		all = p.seals[q.Epoch]
	}
	var list []api.Row
	if q.Kind == api.RScan {
		if q.Epoch == 0 {
			p.now++
		}
		for _, x := range all {
			// A bound stands in the order as a cell does.
			isIn := !isBelow(x.Cell, q.From) && isBelow(x.Cell, q.To)
			if isIn && len(list) < q.Limit {
				list = append(list, x)
			}
		}
		return rows(q.Id, list...)
	}
	for _, c := range q.Cells {
		found := api.Row{Cell: c}
		for _, x := range all {
			if x.Cell == c {
				found = x
			}
		}
		list = append(list, found)
	}
	return rows(q.Id, list...)
}

func isBelow(a, b api.Cell) bool { return a != b && ordered([]api.Cell{a, b})[0] == a }

func (p *plain) keep(session int, q api.Request) api.Response {
	own := hold{session, q.Epoch}
	switch {
	case q.Kind == api.RStats:
		return counts(q.Id, p.stats())
	case q.Kind == api.RPin && p.pins(session) >= p.c.Pins:
		return bad(q.Id, api.ErrPins)
	case q.Kind == api.RPin:
		p.seals[p.now] = p.rows()
		p.holds[hold{session, p.now}] = true
		p.now++
		return sealed(q.Id, p.now-1)
	case q.Kind == api.RRelease && !p.holds[own], q.Kind == api.RJoin && !p.heldBySome(q.Epoch):
		return bad(q.Id, api.ErrEpoch)
	case q.Kind == api.RRelease:
		delete(p.holds, own)
	case !p.holds[own] && p.pins(session) >= p.c.Pins:
		return bad(q.Id, api.ErrPins)
	default:
		p.holds[own] = true
	}
	return done(q.Id)
}

// both are a model and its likeness; what is called is called of both, and held against each other.
type both struct {
	t *testing.T
	m *model.Model
	p *plain
}

func newBoth(t *testing.T, c api.Config) both {
	t.Helper()
	x := both{t, newModel(t, c), newPlain(c)}
	x.same()
	return x
}

func (x both) same() {
	x.t.Helper()
	if got, want := x.m.Map(), x.p.rows(); !slices.Equal(got, want) {
		x.t.Fatalf("Map: %v; want %v", got, want)
	}
	if got, want := x.m.Stats(), x.p.stats(); got != want {
		x.t.Fatalf("Stats: %+v; want %+v", got, want)
	}
	for epoch := -1; epoch <= x.p.now+1; epoch++ {
		got, held := x.m.At(epoch)
		if want, is := x.p.sealed(epoch); held != is || !slices.Equal(got, want) {
			x.t.Fatalf("At(%d): %v, %v; want %v, %v", epoch, got, held, want, is)
		}
	}
}

func (x both) event(i api.Item, full bool) (int, api.Errno) {
	x.t.Helper()
	fate, errno := x.m.Event(i, full)
	if want, why := x.p.event(i, full); fate != want || errno != why {
		x.t.Fatalf("Event(%+v, %v) of %+v: %d, %v; want %d, %v", i, full, x.p.c, fate, errno, want, why)
	}
	x.same()
	return fate, errno
}

func (x both) mark(operator, source int, time int64) api.Errno {
	x.t.Helper()
	got := x.m.Mark(operator, source, time)
	if want := x.p.mark(operator, source, time); got != want {
		x.t.Fatalf("Mark(%d, %d, %d): %v; want %v", operator, source, time, got, want)
	}
	x.same()
	return got
}

func (x both) kill(c api.Cell) api.Errno {
	x.t.Helper()
	got := x.m.Kill(c)
	if want := x.p.kill(c); got != want {
		x.t.Fatalf("Kill(%v): %v; want %v", c, got, want)
	}
	x.same()
	return got
}

func (x both) ask(session int, q api.Request, refused api.Errno) api.Response {
	x.t.Helper()
	got, errno := x.m.Ask(session, q, refused)
	if want, why := x.p.ask(session, q, refused); errno != why || !codec.SameResponse(got, want) {
		x.t.Fatalf("Ask(%d, %+v, %v): %+v, %v; want %+v, %v", session, q, refused, got, errno, want, why)
	}
	x.same()
	return got
}

func (x both) leave(session int) int {
	x.t.Helper()
	got := x.m.Leave(session)
	if want := x.p.leave(session); got != want {
		x.t.Fatalf("Leave(%d): %d; want %d", session, got, want)
	}
	x.same()
	return got
}

// calls makes calls by chance, such as keep a model at work; around is the time at which it is.
type calls struct {
	r      *rand.Rand
	c      api.Config
	around int64
	id     int
}

func newCalls(r *rand.Rand, c api.Config) *calls { return &calls{r: r, c: c} }

func (g *calls) key() string { return string(rune('a' + g.r.IntN(5))) }

func (g *calls) value() int64 {
	if g.r.IntN(10) == 0 {
		return []int64{math.MaxInt64, math.MinInt64, math.MaxInt64 / 2}[g.r.IntN(3)]
	}
	return g.r.Int64N(20) - 10
}

func (g *calls) item() api.Item {
	x := item(g.key(), g.around+g.r.Int64N(50)-42, g.value())
	switch g.r.IntN(60) {
	case 0:
		x.Key = string(make([]byte, g.r.IntN(2)*33))
	case 1:
		x.Time = []int64{1<<60 + 1, -1<<60 - 1, math.MaxInt64, math.MinInt64}[g.r.IntN(4)]
	case 2:
		x.Mark = true
	}
	return x
}

// time now and then goes on.
func (g *calls) time() int64 {
	g.around += g.r.Int64N(9)
	if g.r.IntN(30) == 0 {
		return 1<<61 - 2*g.r.Int64N(2)<<61
	}
	return g.around - g.r.Int64N(10)
}

func (g *calls) cell() api.Cell {
	view := g.r.IntN(len(g.c.Views) + g.r.IntN(2))
	slide := int64(5)
	if view < len(g.c.Views) {
		slide = g.c.Views[view].Slide
	}
	return api.Cell{View: view, Key: g.key(), Start: (g.around/slide - g.r.Int64N(5) + 1) * slide}
}

func (g *calls) epoch(now int) int { return max(now-g.r.IntN(6), 0) }

func (g *calls) request(now int) api.Request {
	g.id++
	switch g.r.IntN(10) {
	case 0, 1:
		return get(g.id, g.epoch(now), g.cell())
	case 2:
		return multi(g.id, g.epoch(now), g.cell(), g.cell(), g.cell())
	case 3, 4:
		return span(g.id, g.epoch(now), 1+g.r.IntN(9), g.cell(), g.cell())
	case 5:
		return scan(g.id, g.epoch(now)*g.r.IntN(2), 1+g.r.IntN(20))
	case 6:
		return pin(g.id)
	case 7:
		return join(g.id, max(g.epoch(now), 1))
	case 8:
		return release(g.id, max(g.epoch(now), 1))
	}
	return stats(g.id)
}

// next does one call of both.
func (g *calls) next(x both) {
	x.t.Helper()
	switch n := g.r.IntN(100); {
	case n < 65:
		g.pipeline(x)
	case n < 68:
		x.leave(g.r.IntN(6))
	default:
		refused := []api.Errno{api.OK, api.OK, api.OK, api.OK, api.OK, api.OK, api.ErrBusy, api.ErrDown, api.ErrFull}[g.r.IntN(9)]
		x.ask(g.r.IntN(5), g.request(x.p.now), refused)
	}
}

// pipeline does an event, a mark or a kill; dues are killed mostly, so that it goes on.
func (g *calls) pipeline(x both) {
	x.t.Helper()
	operator := g.r.IntN(g.c.Operators)
	due := x.p.due(operator)
	switch n := g.r.IntN(60); {
	case len(due) > 0 && n < 50:
		x.kill(due[g.r.IntN(min(len(due), 1+n%3))])
	case n < 14:
		x.mark(operator, g.r.IntN(g.c.Sources+n%3/2), g.time())
	case n < 18:
		x.kill(g.cell())
	default:
		x.event(g.item(), n%5 == 0)
	}
}
