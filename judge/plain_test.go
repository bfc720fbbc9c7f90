package judge_test

import (
	"math/big"
	"regexp"
	"slices"
	"strings"

	"spate/api"
	"spate/codec"
	"spate/model"
	"spate/serve"
)

// Here is what the chapter says, as plainly as can be, for the tests that hold the package against it. Of operations the model is asked, which has tests of its own.

// uses are the fields that each kind of line uses, beside Who.
var uses = map[int]string{
	api.HEvent: "from item fate", api.HMark: "from item", api.HKill: "cell",
	api.HOpen: "", api.HAsk: "no request", api.HPoint: "no fate", api.HAnswer: "no response", api.HBad: "response", api.HLeave: "",
}

func isLine(c api.Config, x api.Line) bool {
	used, is := uses[x.Kind]
	if !is {
		return false
	}
	for field, empty := range map[string]bool{
		"no": x.No == 0, "from": x.From == 0, "fate": x.Fate == 0, "item": x.Item == api.Item{}, "cell": x.Cell == api.Cell{},
		"request":  codec.SameRequest(x.Request, api.Request{}),
		"response": codec.SameResponse(x.Response, api.Response{}),
	} {
		if !empty && !slices.Contains(strings.Fields(used), field) {
			return false
		}
	}
	isTime := -1<<60 <= x.Item.Time && x.Item.Time <= 1<<60
	isSource := 0 <= x.From && x.From < c.Sources
	if x.Kind <= api.HKill && (x.Who < 0 || x.Who >= c.Operators) || x.Kind > api.HKill && (x.Who < 1 || x.Who > 64) {
		return false
	}
	switch x.Kind {
	case api.HEvent:
		return isSource && isTime && !x.Item.Mark && x.Item.Key != "" && len(x.Item.Key) <= 32 && 1 <= x.Fate && x.Fate <= 4
	case api.HMark:
		return isSource && isTime && x.Item == api.Item{Mark: true, Time: x.Item.Time}
	case api.HAsk:
		return codec.CheckRequest(x.Request) == api.OK
	case api.HPoint:
		return x.Fate == 0 || x.Fate == 35
	case api.HAnswer:
		return codec.CheckResponse(x.Response) == api.OK
	case api.HBad:
		return codec.CheckResponse(x.Response) == api.OK && x.Response.Kind == api.SError
	}
	return true
}

var (
	letters = map[int]string{api.HOpen: "O", api.HAsk: "A", api.HPoint: "P", api.HAnswer: "R", api.HBad: "B", api.HLeave: "L"}
	history = regexp.MustCompile(`^(O(APR)*(L|BL?|A|AP|APL)?)?$`)
)

// mayStand asks whether a line may stand behind others, by all lines of its session.
func mayStand(ahead []api.Line, x api.Line) bool {
	if x.Kind <= api.HKill {
		return true
	}
	word, no := "", 0
	for _, y := range ahead {
		if y.Kind > api.HKill && y.Who == x.Who {
			word += letters[y.Kind]
			if y.Kind == api.HAnswer {
				no++
			}
		}
	}
	return history.MatchString(word+letters[x.Kind]) && (!strings.Contains("APR", letters[x.Kind]) || x.No == no)
}

// plainForm is the first line that has not the form, or may not stand where it is: the number of lines, if there is none.
func plainForm(c api.Config, l []api.Line) (int, api.Errno) {
	for i, x := range l {
		if !isLine(c, x) {
			return i, api.ErrField
		}
		if !mayStand(l[:i], x) {
			return i, api.ErrOrder
		}
	}
	return len(l), api.OK
}

// do has a model do what a line says, but for requests.
func do(m *model.Model, x api.Line) api.Errno {
	switch x.Kind {
	case api.HEvent:
		if m.Operator(x.Item.Key) != x.Who {
			return api.ErrArg
		}
		if fate, errno := m.Event(x.Item, x.Fate == 4); errno != api.OK {
			return errno
		} else if fate != x.Fate {
			return api.ErrAnswer
		}
	case api.HMark:
		return m.Mark(x.Who, x.From, x.Item.Time)
	case api.HKill:
		if m.Operator(x.Cell.Key) != x.Who {
			return api.ErrArg
		}
		return m.Kill(x.Cell)
	case api.HLeave:
		m.Leave(x.Who)
	}
	return api.OK
}

// plainLegal is Legal's.
func plainLegal(c api.Config, l []api.Line) (int, api.Errno) {
	if errno := serve.Check(c); errno != api.OK {
		return 0, errno
	}
	end, formless := plainForm(c, l)
	m, _ := model.New(c)
	asked, told := map[int]api.Request{}, map[int]api.Response{}
	for i, x := range l[:end] {
		errno := do(m, x)
		switch x.Kind {
		case api.HAsk:
			asked[x.Who] = x.Request
		case api.HPoint:
			told[x.Who], errno = m.Ask(x.Who, asked[x.Who], api.Errno(x.Fate))
		case api.HAnswer:
			if !codec.SameResponse(told[x.Who], x.Response) {
				errno = api.ErrAnswer
			}
		}
		if errno != api.OK {
			return i, errno
		}
	}
	return end, formless
}

func plainOrder(c api.Config, l []api.Line) ([]int, api.Errno) {
	if _, errno := plainLegal(c, l); errno != api.OK {
		return nil, errno
	}
	var list []int
	for i, x := range l {
		if x.Kind <= api.HKill || x.Kind == api.HPoint || x.Kind == api.HLeave {
			list = append(list, i)
		}
	}
	return list, api.OK
}

// trial is a request that is tried at all places, one after the other.
type trial struct {
	session     int
	asked       api.Request
	refused     api.Errno
	from, ahead int // the lines behind which and ahead of which it is done
	heard       *api.Response
}

// plainLinear is Linear's: it tries all orders, each by a model of its own. It is for few requests.
func plainLinear(c api.Config, l []api.Line) (bool, api.Errno) {
	if errno := serve.Check(c); errno != api.OK {
		return false, errno
	}
	if _, errno := plainForm(c, l); errno != api.OK {
		return false, errno
	}
	var trials []trial
	for i, x := range l {
		if x.Kind == api.HAsk {
			trials = append(trials, trialOf(l, i))
		}
	}
	if len(trials) > 12 {
		return false, api.ErrMany
	}
	m, _ := model.New(c)
	return tryAll(l, trials, 0, map[int]bool{}, m), api.OK
}

func trialOf(l []api.Line, i int) trial {
	t := trial{session: l[i].Who, asked: l[i].Request, from: i, ahead: len(l)}
	for j := i + 1; j < len(l); j++ {
		x := l[j]
		switch {
		case x.Kind <= api.HKill || x.Who != t.session:
		case x.Kind == api.HPoint:
			t.refused = api.Errno(x.Fate)
		case x.Kind == api.HAnswer:
			t.ahead, t.heard = j, &x.Response
			return t
		case x.Kind == api.HLeave:
			t.ahead = j
			return t
		}
	}
	return t
}

// tryAll stands ahead of a line.
func tryAll(l []api.Line, trials []trial, at int, is map[int]bool, m *model.Model) bool {
	for n, t := range trials {
		if is[n] || t.from >= at || t.ahead < at {
			continue
		}
		twin := m.Twin()
		told, _ := twin.Ask(t.session, t.asked, t.refused)
		if t.heard != nil && !codec.SameResponse(told, *t.heard) {
			continue
		}
		is[n] = true
		if tryAll(l, trials, at, is, twin) {
			return true
		}
		is[n] = false
	}
	if at == len(l) {
		return true
	}
	for n, t := range trials {
		if t.heard != nil && t.ahead == at && !is[n] {
			return false
		}
	}
	twin := m.Twin()
	return do(twin, l[at]) == api.OK && tryAll(l, trials, at+1, is, twin)
}

// plainFold is Fold's, by numbers of any length: it asks no model, and looks at events and marks alone.
func plainFold(c api.Config, l []api.Line) ([]api.Row, api.Stats, api.Errno) {
	if _, errno := plainLegal(c, l); errno != api.OK {
		return nil, api.Stats{}, errno
	}
	least, told := map[int]int64{}, map[[2]int]int64{}
	for o := range c.Operators {
		least[o] = -1 << 62
	}
	at := map[string]int{}
	values := map[api.Cell][]int64{}
	var stats api.Stats
	fates := map[int]*int{api.FTaken: &stats.Taken, api.FLate: &stats.Late, api.FOverflow: &stats.Overflow, api.FFull: &stats.Full}
	for _, x := range l {
		switch x.Kind {
		case api.HMark:
			before, was := told[[2]int{x.Who, x.From}]
			if !was || before < x.Item.Time {
				told[[2]int{x.Who, x.From}] = x.Item.Time
			}
			least[x.Who] = leastOf(c, told, x.Who)
		case api.HEvent:
			*fates[x.Fate]++
			at[x.Item.Key] = x.Who
			if x.Fate == api.FTaken {
				for _, w := range windows(c, x.Item) {
					if !isClosed(c, w, least[x.Who]) {
						values[w] = append(values[w], x.Item.Value)
					}
				}
			}
		}
	}
	var all []api.Row
	for w, v := range values {
		if !isClosed(c, w, least[at[w.Key]]) {
			all = append(all, rowOf(w, v))
		}
	}
	slices.SortFunc(all, func(a, b api.Row) int { return compare(a.Cell, b.Cell) })
	stats.Cells = len(all)
	return all, stats, api.OK
}

func leastOf(c api.Config, told map[[2]int]int64, operator int) int64 {
	least := int64(1 << 62)
	for source := range c.Sources {
		mark, was := told[[2]int{operator, source}]
		if !was {
			return -1 << 62
		}
		least = min(least, mark)
	}
	return least
}

func isClosed(c api.Config, w api.Cell, mark int64) bool {
	v := c.Views[w.View]
	end := new(big.Int).Add(big.NewInt(w.Start), big.NewInt(v.Size))
	return end.Add(end, big.NewInt(v.Late)).Cmp(big.NewInt(mark)) <= 0
}

// windows are an event's cells, open or not.
func windows(c api.Config, x api.Item) []api.Cell {
	var all []api.Cell
	for n, v := range c.Views {
		// Div is Euclid's: the quotient is cut downwards.
		s := new(big.Int).Sub(big.NewInt(x.Time), big.NewInt(v.Size))
		slide := big.NewInt(v.Slide)
		s.Mul(s.Div(s, slide), slide)
		for ; s.Cmp(big.NewInt(x.Time)) <= 0; s.Add(s, slide) {
			if end := new(big.Int).Add(s, big.NewInt(v.Size)); end.Cmp(big.NewInt(x.Time)) > 0 {
				all = append(all, api.Cell{View: n, Key: x.Key, Start: s.Int64()})
			}
		}
	}
	return all
}

func compare(a, b api.Cell) int {
	if a.View != b.View {
		return a.View - b.View
	}
	if a.Key != b.Key {
		return strings.Compare(a.Key, b.Key)
	}
	return big.NewInt(a.Start).Cmp(big.NewInt(b.Start))
}
