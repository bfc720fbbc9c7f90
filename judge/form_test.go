package judge_test

import (
	"errors"
	"strings"
	"testing"

	"spate/api"
	"spate/judge"
)

// kinds is a line of each kind that has the form of one, with as much in it as may be; of sessions those that may stand first are not told apart from others here.
func kinds() []api.Line {
	return []api.Line{
		by(1, 1, event(strings.Repeat("k", 32), 1<<60, -1<<63, api.FFull)),
		by(1, 1, mark(-1<<60)),
		by(1, 0, api.Line{Kind: api.HKill, Cell: api.Cell{View: -9, Key: "", Start: -1 << 63}}),
		open(64),
		ask(64, 7, multi(1<<40, cell("a", -1<<61), cell("b", 1<<61))),
		busy(64, 7),
		answer(64, 7, rows(row("a", 0, 1, 2))),
		broken(64, api.ErrFrame),
		leave(64),
	}
}

func two() api.Config {
	return with(func(c *api.Config) { c.Sources, c.Operators = 2, 2 })
}

// P2101: the form of a line: what has it is told something else than ErrField at most, also if it may not stand where it is.
func TestFormOfLines(t *testing.T) {
	for _, x := range kinds() {
		if _, err := judge.Legal(two(), lines(x)); errors.Is(err, api.ErrField) {
			t.Errorf("%+v: %v", x, err)
		}
		if !isLine(two(), x) {
			t.Errorf("%+v has not the form of a line", x)
		}
	}
}

// noLine wants ErrField of a line, at its place, also where a line of its kind may not stand.
func noLine(t *testing.T, x api.Line) {
	t.Helper()
	wrong(t, two(), api.ErrField, x)
	wrong(t, two(), api.ErrField, join(opened(64), lines(x))...)
	wantLinear(t, two(), lines(x), false, api.ErrField)
}

// P2101: what a kind does not use is zero.
func TestUnusedIsZero(t *testing.T) {
	fields := map[string]func(*api.Line){
		"no":         func(x *api.Line) { x.No = 1 },
		"from":       func(x *api.Line) { x.From = 1 },
		"fate":       func(x *api.Line) { x.Fate = 1 },
		"item, mark": func(x *api.Line) { x.Item.Mark = true },
		"item, key":  func(x *api.Line) { x.Item.Key = "k" },
		"item, time": func(x *api.Line) { x.Item.Time = 1 },
		"item":       func(x *api.Line) { x.Item.Value = 1 },
		"cell, view": func(x *api.Line) { x.Cell.View = 1 },
		"cell, key":  func(x *api.Line) { x.Cell.Key = "k" },
		"cell":       func(x *api.Line) { x.Cell.Start = 1 },
		"request":    func(x *api.Line) { x.Request = pin() },
		"request, k": func(x *api.Line) { x.Request.Limit = 1 },
		"request, c": func(x *api.Line) { x.Request.Cells = []api.Cell{{}} },
		"response":   func(x *api.Line) { x.Response = done() },
		"response,e": func(x *api.Line) { x.Response.Err = 1 },
		"response,r": func(x *api.Line) { x.Response.Rows = []api.Row{{}} },
	}
	for _, x := range kinds() {
		for name, fill := range fields {
			if used, _, _ := strings.Cut(name, ","); strings.Contains(uses[x.Kind], used) {
				continue
			}
			y := x
			fill(&y)
			noLine(t, y)
		}
	}
}

// P2101: lists without elements are none: they may be there where a kind uses none.
func TestEmptyLists(t *testing.T) {
	var l []api.Line
	for _, x := range join(opened(2), whole(1, 0, pin(), sealed(1)), lines(taken("a", 5, 7), mark(10), kill("a", 0), broken(1, api.ErrKind), leave(1))) {
		x.Who = min(x.Who, 1+x.Kind)
		x.Request.Cells, x.Response.Rows = make([]api.Cell, 0, 3), make([]api.Row, 0, 3)
		l = append(l, x)
	}
	legal(t, small(), l...)
	linear(t, small(), l)
}

// P2101: what the kinds use.
func TestUsedFields(t *testing.T) {
	for _, kind := range []int{-1, 0, 10, 1 << 40} {
		noLine(t, api.Line{Kind: kind})
		noLine(t, api.Line{Kind: kind, Who: 1})
	}
	for _, x := range kinds() {
		least, most := 1, 64
		if x.Kind <= api.HKill {
			least, most = 0, 1
		}
		for _, who := range []int{-1, least - 1, most + 1, -1 << 63, 1<<63 - 1} {
			y := x
			y.Who = who
			noLine(t, y)
		}
		for _, from := range []int{-1, 2, 1 << 40} {
			y := x
			y.From = from
			noLine(t, y)
		}
	}
	for _, fate := range []int{-1, 0, 5, int(api.ErrBusy)} {
		noLine(t, event("a", 1, 1, fate))
	}
	for _, fate := range []int{-1, 1, 34, 36, int(api.ErrDown), 1 << 40} {
		noLine(t, api.Line{Kind: api.HPoint, Who: 1, Fate: fate})
	}
}

// P2101, P1502: the items are such as a source's queue takes.
func TestItems(t *testing.T) {
	for _, x := range []api.Item{
		{Key: ""}, {Key: strings.Repeat("k", 33)}, {Key: "k", Time: 1<<60 + 1}, {Key: "k", Time: -1<<60 - 1}, {Mark: true}, {Mark: true, Key: "k"},
	} {
		noLine(t, api.Line{Kind: api.HEvent, Item: x, Fate: api.FTaken})
	}
	for _, x := range []api.Item{
		{Mark: true, Key: "k"}, {Mark: true, Value: 1}, {Mark: true, Time: 1<<60 + 1}, {Mark: true, Time: -1 << 63}, {}, {Key: "k"},
	} {
		noLine(t, api.Line{Kind: api.HMark, Item: x})
	}
}

// P2101: the requests and responses are such as may be written.
func TestMessages(t *testing.T) {
	for _, q := range []api.Request{
		{}, {Kind: 8}, {Kind: api.RPin, Id: -1}, {Kind: api.RPin, Epoch: 1}, {Kind: api.RGet}, get(0, cell("", 0)), get(-1, cell("k", 0)), multi(0), scan(0, 0), scan(0, 257), joining(0), release(0),
		multi(0, make([]api.Cell, 17)...),
	} {
		noLine(t, ask(1, 0, q))
	}
	for _, r := range []api.Response{
		{}, {Kind: 6}, {Kind: api.SDone, Id: -1}, {Kind: api.SDone, Epoch: 1}, sealed(0), bad(0), bad(256), rows(api.Row{}), rows(make([]api.Row, 257)...), counts(api.Stats{Now: -1}),
	} {
		noLine(t, answer(1, 0, r))
	}
	for _, r := range []api.Response{{}, done(), sealed(1), rows(), counts(api.Stats{}), bad(0), bad(-1), bad(256), {Kind: api.SError}} {
		noLine(t, api.Line{Kind: api.HBad, Who: 1, Response: r})
	}
}

// P2101: at each place of a session's history each line that may not stand there is told ErrOrder; and that what may is.
func TestFormOfSessions(t *testing.T) {
	m := func(no int) []api.Line {
		return []api.Line{open(1), ask(1, no, stats()), point(1, no), answer(1, no, counts(api.Stats{Now: 1})), broken(1, api.ErrCut), leave(1)}
	}
	full := func(no int) []api.Line { return whole(1, no, stats(), counts(api.Stats{Now: 1})) }
	for name, c := range map[string]struct {
		ahead []api.Line
		no    int
		may   string // which of the lines, by their letters
	}{
		"nothing":            {nil, 0, "O"},
		"opened":             {opened(1), 0, "ABL"},
		"asked":              {join(opened(1), full(0)[:1]), 0, "P"},
		"pointed":            {join(opened(1), full(0)[:2]), 0, "RL"},
		"answered":           {join(opened(1), full(0)), 1, "ABL"},
		"answered, the same": {join(opened(1), full(0)), 0, "BL"},
		"answered, a gap":    {join(opened(1), full(0)), 2, "BL"},
		"asked again":        {join(opened(1), full(0), full(1)[:1]), 1, "P"},
		"asked, another no":  {join(opened(1), full(0), full(1)[:1]), 0, ""},
		"pointed again":      {join(opened(1), full(0), full(1)[:2]), 1, "RL"},
		"pointed, another":   {join(opened(1), full(0), full(1)[:2]), 2, "L"},
		"opened, a later no": {opened(1), 1, "BL"},
		"opened, below 0":    {opened(1), -1, "BL"},
		"broken":             {join(opened(1), lines(broken(1, api.ErrKey))), 0, "L"},
		"answered, broken":   {join(opened(1), full(0), lines(broken(1, api.ErrKey))), 1, "L"},
		"left":               {join(opened(1), lines(leave(1))), 0, ""},
		"answered, left":     {join(opened(1), full(0), lines(leave(1))), 1, ""},
		"pointed, left":      {join(opened(1), full(0)[:2], lines(leave(1))), 0, ""},
		"broken, left":       {join(opened(1), lines(broken(1, 1), leave(1))), 0, ""},
	} {
		for _, x := range m(c.no) {
			// Other sessions are apart from this one.
			l := join(lines(open(2)), c.ahead, lines(ask(2, 0, pin()), x))
			errno := api.ErrOrder
			if strings.Contains(c.may, letters[x.Kind]) {
				legal(t, small(), l...)
				errno = api.OK
			} else {
				wrong(t, small(), api.ErrOrder, l...)
			}
			if _, e := judge.Linear(small(), l); e != errno {
				t.Errorf("%s: %s: Linear: %v; want %v", name, letters[x.Kind], e, errno)
			}
		}
	}
}

// P2101: sessions are apart from one another, also that of the same number as an operator.
func TestSessionsApart(t *testing.T) {
	legal(t, two(), join(
		lines(open(1), open(64), ask(64, 0, pin()), ask(1, 0, pin()), point(64, 0), point(1, 0), by(1, 1, mark(3)), answer(1, 0, sealed(2)), ask(1, 1, pin())),
		lines(answer(64, 0, sealed(1)), leave(64), point(1, 1), answer(1, 1, bad(api.ErrPins)), broken(1, 1)),
	)...)
}
