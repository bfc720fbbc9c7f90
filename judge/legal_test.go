package judge_test

import (
	"errors"
	"math"
	"testing"

	"spate/api"
	"spate/judge"
)

// P2101: the chapter's examples.
func TestLegalExamples(t *testing.T) {
	c := small()
	legal(t, c)
	legal(t, c, taken("a", 5, 7), mark(10), kill("a", 0))
	wrong(t, c, api.ErrPoint, taken("a", 5, 7), kill("a", 0))
	wrong(t, c, api.ErrAnswer, event("a", 5, 7, api.FLate))
	wrong(t, c, api.ErrOrder, open(1), ask(1, 0, pin()), answer(1, 0, sealed(1)))
	legal(t, c, open(1), ask(1, 0, pin()), point(1, 0), answer(1, 0, sealed(1)))
	wrong(t, c, api.ErrAnswer, open(1), ask(1, 0, pin()), point(1, 0), answer(1, 0, sealed(2)))
	wrong(t, c, api.ErrAnswer, open(1), open(2), ask(1, 0, pin()), ask(2, 0, pin()), point(1, 0), point(2, 0), answer(2, 0, sealed(1)))
}

// P2101: serve's Check comes first, at 0, also of a history that is wrong else.
func TestConfigs(t *testing.T) {
	for _, x := range []struct {
		c     api.Config
		errno api.Errno
	}{
		{api.Config{}, api.ErrConfig},
		{with(func(c *api.Config) { c.Views = nil }), api.ErrConfig},
		{with(func(c *api.Config) { c.Views[0].Size = 0 }), api.ErrView},
		{with(func(c *api.Config) { c.Views[0].Late = -1; c.Operators = 9 }), api.ErrView},
		{with(func(c *api.Config) { c.Operators = 9 }), api.ErrConfig},
		{with(func(c *api.Config) { c.Slots = 1 }), api.ErrConfig},
		{with(func(c *api.Config) { c.Frame = 1<<16 + 1 }), api.ErrConfig},
		{with(func(c *api.Config) { c.Pins = 65 }), api.ErrConfig},
	} {
		for _, l := range [][]api.Line{nil, {{}}, {open(1)}, {taken("a", 5, 7)}, {leave(1)}} {
			wantLegal(t, x.c, l, 0, x.errno)
			wantLinear(t, x.c, l, false, x.errno)
			wantOrder(t, x.c, l, x.errno)
			noFold(t, x.c, l, x.errno)
		}
	}
}

// P2101: the first line that may not be there is told; of what is wrong in it the first row's: the form of a line, the form of a history, then all else.
func TestFirstFault(t *testing.T) {
	c := small()
	l := lines(open(1), taken("a", 5, 7), kill("a", 0), ask(2, 0, pin()), api.Line{})
	wantLegal(t, c, l, 2, api.ErrPoint)
	wantLegal(t, c, append(l[:2:2], l[3:]...), 2, api.ErrOrder)
	wantLegal(t, c, append(l[:2:2], l[4:]...), 2, api.ErrField)
	wrong(t, c, api.ErrField, ask(2, 0, api.Request{}))
	wrong(t, two(), api.ErrField, by(0, 1, event("a", 5, 7, 9)))
	wrong(t, c, api.ErrOrder, open(1), ask(1, 0, pin()), answer(1, 0, sealed(9)))
}

// keysOf are keys of operators 0 and 1, of two (chapter 15's example).
const (
	keyOf0 = "c"
	keyOf1 = "a"
)

// P2101: an event: its operator, the model's error, its fate.
func TestLegalEvents(t *testing.T) {
	c := two()
	legal(t, c, by(1, 0, taken(keyOf1, 5, 7)), by(0, 1, taken(keyOf0, 5, 7)))
	wrong(t, c, api.ErrArg, by(0, 0, taken(keyOf1, 5, 7)))
	wrong(t, c, api.ErrArg, by(1, 0, taken(keyOf0, 5, 7)))
	wrong(t, c, api.ErrArg, by(1, 0, event(keyOf0, 5, 7, api.FLate)))

	c = small()
	high := int64(math.MaxInt64)
	for name, x := range map[string]struct {
		ahead []api.Line
		item  api.Line
		errs  [4]api.Errno // of the fates FTaken, FLate, FOverflow, FFull
	}{
		"taken":      {nil, taken("a", 5, 7), [4]api.Errno{api.OK, api.ErrAnswer, api.ErrAnswer, api.OK}},
		"late":       {lines(mark(10)), taken("a", 9, 7), [4]api.Errno{api.ErrAnswer, api.OK, api.ErrAnswer, api.ErrPoint}},
		"overflow":   {lines(taken("a", 5, high)), taken("a", 5, 1), [4]api.Errno{api.ErrAnswer, api.ErrAnswer, api.OK, api.ErrPoint}},
		"fits still": {lines(taken("a", 5, high)), taken("a", 5, 0), [4]api.Errno{api.OK, api.ErrAnswer, api.ErrAnswer, api.OK}},
		"due":        {lines(taken("a", 5, 7), mark(10)), taken("a", 25, 7), [4]api.Errno{api.ErrOrder, api.ErrOrder, api.ErrOrder, api.ErrOrder}},
	} {
		for i, errno := range x.errs {
			x.item.Fate = i + 1
			at := len(x.ahead)
			if errno == api.OK {
				at++
			}
			n, err := judge.Legal(c, append(x.ahead[:len(x.ahead):len(x.ahead)], x.item))
			if n != at || numberOf(t, err) != errno {
				t.Errorf("%s, fate %d: %d, %v; want %d, %v", name, i+1, n, err, at, errno)
			}
		}
	}
	gaps := with(func(c *api.Config) { c.Views[0] = api.View{Size: 1, Slide: 10} })
	legal(t, gaps, taken("a", 5, 7))
	wrong(t, gaps, api.ErrPoint, event("a", 5, 7, api.FFull))
}

// P2101: what is late or full or an overflow is not in the map; what is taken is.
func TestLegalWrites(t *testing.T) {
	c := small()
	high := int64(math.MaxInt64)
	l := lines(open(1), mark(10), event("a", 5, 7, api.FLate), event("b", 15, 1, api.FFull), taken("b", 16, high), event("b", 17, 1, api.FOverflow), taken("b", 18, -1))
	legal(t, c, join(l, whole(1, 0, scan(0, 9), rows(row("b", 10, high, -1))), whole(1, 1, stats(), counts(api.Stats{Taken: 2, Late: 1, Overflow: 1, Full: 1, Cells: 1, Now: 2})))...)
	wrong(t, c, api.ErrAnswer, join(l, whole(1, 0, scan(0, 9), rows(row("b", 10, high, 1, -1))))...)
	wrong(t, c, api.ErrAnswer, join(l, whole(1, 0, scan(0, 9), rows()))...)
}

// P2101: a mark: the model's error; kills: their operator, the model's error.
func TestLegalMarksAndKills(t *testing.T) {
	c := two()
	a, b := by(1, 0, taken(keyOf1, 5, 7)), by(0, 0, taken(keyOf0, 5, 7))
	up := func(operator int) []api.Line {
		return lines(by(operator, 0, mark(10)), by(operator, 1, mark(12)))
	}
	gone := func(operator int, key string) api.Line { return by(operator, 0, kill(key, 0)) }
	legal(t, c, join(lines(a, b), up(1), lines(gone(1, keyOf1), by(1, 0, mark(3)), by(1, 1, mark(20))), up(0), lines(gone(0, keyOf0)))...)
	wrong(t, c, api.ErrArg, join(lines(a), up(1), lines(gone(0, keyOf1)))...)
	wrong(t, c, api.ErrArg, gone(0, ""))
	wrong(t, c, api.ErrPoint, gone(1, ""))
	wrong(t, c, api.ErrPoint, join(lines(a), up(0), lines(gone(1, keyOf1)))...)
	wrong(t, c, api.ErrPoint, join(lines(a), up(1)[:1], lines(gone(1, keyOf1)))...)
	wrong(t, c, api.ErrPoint, join(lines(a), up(1), lines(gone(1, keyOf1), gone(1, keyOf1)))...)
	wrong(t, c, api.ErrOrder, join(lines(a), up(1), lines(by(1, 0, mark(11))))...)
	legal(t, c, join(lines(a), up(1), lines(by(0, 0, mark(11)), by(0, 0, taken(keyOf0, 50, 1))))...)

	c = small()
	l := lines(taken("b", 5, 1), taken("a", 5, 1), mark(10))
	wrong(t, c, api.ErrOrder, join(l, lines(kill("b", 0)))...)
	legal(t, c, join(l, lines(kill("a", 0), kill("b", 0), taken("a", 15, 1)))...)
	wrong(t, c, api.ErrPoint, join(l, lines(api.Line{Kind: api.HKill, Cell: api.Cell{View: 1, Key: "a"}}))...)
	wrong(t, c, api.ErrPoint, join(l, lines(kill("a", 10)))...)
	// A source that told no mark holds all others up.
	wrong(t, with(func(c *api.Config) { c.Sources = 2 }), api.ErrPoint, taken("a", 5, 1), mark(10), kill("a", 0))
}

// P2101: an answer is what the model answers at the point, not at the ask or the answer.
func TestLegalPoints(t *testing.T) {
	c := small()
	ahead := lines(open(1), ask(1, 0, get(0, cell("a", 0))), taken("a", 5, 7), point(1, 0), taken("a", 5, 1))
	legal(t, c, join(ahead, lines(answer(1, 0, rows(row("a", 0, 7)))))...)
	wrong(t, c, api.ErrAnswer, join(ahead, lines(answer(1, 0, rows(row("a", 0)))))...)
	wrong(t, c, api.ErrAnswer, join(ahead, lines(answer(1, 0, rows(row("a", 0, 7, 1)))))...)
	wrong(t, c, api.ErrAnswer, join(ahead, lines(answer(1, 0, rows())))...)
	wrong(t, c, api.ErrAnswer, join(ahead, lines(answer(1, 0, api.Response{Kind: api.SRows, Id: 1, Rows: []api.Row{row("a", 0, 7)}})))...)
}

// P2101: of each kind of request, also those that are refused.
func TestLegalRequests(t *testing.T) {
	c := with(func(c *api.Config) { c.Pins = 2 })
	l := join(
		opened(2), lines(taken("a", 5, 7)),
		whole(1, 0, pin(), sealed(1)),
		lines(taken("a", 5, 1), ask(1, 1, pin()), busy(1, 1), answer(1, 1, bad(api.ErrBusy))),
		whole(1, 2, get(1, cell("a", 0)), rows(row("a", 0, 7))),
		whole(2, 0, get(1, cell("a", 0)), bad(api.ErrEpoch)),
		whole(2, 1, joining(1), done()),
		whole(2, 2, joining(2), bad(api.ErrEpoch)),
		whole(1, 3, release(1), done()),
		whole(1, 4, release(1), bad(api.ErrEpoch)),
		whole(2, 3, multi(1, cell("b", 0), cell("a", 0)), rows(row("b", 0), row("a", 0, 7))),
		whole(2, 4, scan(0, 1), rows(row("a", 0, 7, 1))),
		whole(2, 5, stats(), counts(api.Stats{Taken: 2, Cells: 1, Now: 3})),
		whole(2, 6, pin(), sealed(3)),
		whole(2, 7, pin(), bad(api.ErrPins)),
		whole(1, 5, joining(1), done()),
		lines(leave(2)),
		whole(1, 6, joining(3), bad(api.ErrEpoch)),
		whole(1, 7, joining(1), done()),
		lines(leave(1)),
	)
	legal(t, c, l...)
	for i, x := range l {
		// Of a refused request nothing but the refusal is answered, of another one never that.
		if x.Kind == api.HPoint {
			y := deep(l)
			y[i].Fate = int(api.ErrBusy) - x.Fate
			if n, err := judge.Legal(c, y); n != i+1 || !errors.Is(err, api.ErrAnswer) {
				t.Errorf("line %d: %d, %v", i, n, err)
			}
		}
	}
}

// P2101: who leaves lets all go, also one whose answer is dropped.
func TestLegalLeave(t *testing.T) {
	c := small()
	l := lines(open(1), open(2), ask(1, 0, pin()), point(1, 0))
	legal(t, c, join(l, whole(2, 0, joining(1), done()))...)
	legal(t, c, join(l, lines(leave(1)), whole(2, 0, joining(1), bad(api.ErrEpoch)))...)
	wrong(t, c, api.ErrAnswer, join(l, lines(leave(1)), whole(2, 0, joining(1), done()))...)
	legal(t, c, join(l, lines(answer(1, 0, sealed(1)), broken(1, api.ErrDown)), whole(2, 0, joining(1), done()))...)
}
