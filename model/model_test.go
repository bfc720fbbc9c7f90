package model_test

import (
	"math"
	"slices"
	"strings"
	"testing"

	"spate/api"
	"spate/model"
)

// P1901, W5: each part of a configuration may be what its bounds are, and no more.
func TestConfigs(t *testing.T) {
	type part struct {
		name        string
		of          func(*api.Config) *int
		least, most int
	}
	for _, p := range []part{
		{"Sources", func(c *api.Config) *int { return &c.Sources }, 1, 8},
		{"Operators", func(c *api.Config) *int { return &c.Operators }, 1, 8},
		{"Shards", func(c *api.Config) *int { return &c.Shards }, 1, 16},
		{"Slots", func(c *api.Config) *int { return &c.Slots }, 2, 1 << 20},
		{"Box", func(c *api.Config) *int { return &c.Box }, 1, 64},
		{"Admit", func(c *api.Config) *int { return &c.Admit }, 1, 64},
		{"Pins", func(c *api.Config) *int { return &c.Pins }, 1, 64},
		{"Chunk", func(c *api.Config) *int { return &c.Chunk }, 1, 64},
		{"Frame", func(c *api.Config) *int { return &c.Frame }, 16, 1 << 16},
		{"In", func(c *api.Config) *int { return &c.In }, 1, 1 << 17},
		{"Out", func(c *api.Config) *int { return &c.Out }, 1, 1 << 17},
	} {
		for _, n := range []int{p.least, p.least + 1, p.most - 1, p.most} {
			newModel(t, with(func(c *api.Config) { *p.of(c) = n }))
		}
		for _, n := range []int{math.MinInt, -1, 0, p.least - 1, p.most + 1, math.MaxInt} {
			wantNoModel(t, p.name, with(func(c *api.Config) { *p.of(c) = n }))
		}
	}
}

func wantNoModel(t *testing.T, name string, c api.Config) {
	t.Helper()
	if m, errno := model.New(c); m != nil || errno != api.ErrConfig {
		t.Errorf("New of %s (%+v): %v, %v", name, c, m, errno)
	}
}

// P1901, W2, W5: a configuration has 1 to 4 views, and these are right.
func TestViews(t *testing.T) {
	const top = 1 << 40
	one := api.View{Size: 10, Slide: 10}
	for n := range 7 {
		c := with(func(c *api.Config) { c.Views = slices.Repeat([]api.View{one}, n) })
		if n >= 1 && n <= 4 {
			newModel(t, c)
		} else {
			wantNoModel(t, "views", c)
		}
	}
	for _, v := range []api.View{{Size: 1, Slide: 1}, {Size: 64, Slide: 1, Late: top}, {Size: top, Slide: top / 64}, {Size: 1, Slide: top}} {
		newModel(t, with(func(c *api.Config) { c.Views = []api.View{one, v} }))
	}
	for _, v := range []api.View{{}, {Size: 65, Slide: 1}, {Size: 1}, {Slide: 1}, {Size: top + 1, Slide: top}, {Size: 1, Slide: top + 1}, {Size: 1, Slide: 1, Late: -1}, {Size: 1, Slide: 1, Late: top + 1}} {
		wantNoModel(t, "a view", with(func(c *api.Config) { c.Views = []api.View{one, one, v} }))
	}
}

// P1901: at first nothing is there, nothing was heard, and nothing is counted.
func TestAtFirst(t *testing.T) {
	m := newModel(t, with(func(c *api.Config) { c.Operators, c.Sources, c.Pins = 8, 8, 64 }))
	wantMap(t, m)
	wantStats(t, m, api.Stats{Now: 1})
	wantNotHeld(t, m, math.MinInt, -1, 0, 1, 2, 1<<40, math.MaxInt)
	for session := range 66 {
		wantLeave(t, m, session, 0)
	}
	for operator := range 8 {
		take(t, m, item(keyAt(operator, 8, 0), -1<<60, 1))
	}
}

// P1901, W9: Operator tells of any text what the document reckons.
func TestOperator(t *testing.T) {
	keys := []string{"", "a", "b", "k1", "\x00", "\x00\x00", "\xff\xfe", "é", strings.Repeat("x", 32), strings.Repeat("\xff", 1000)}
	for n := range 300 {
		keys = append(keys, string(rune('a'+n%26))+strings.Repeat(string(rune(n)), n%7))
	}
	for operators := 1; operators <= 8; operators++ {
		m := newModel(t, with(func(c *api.Config) { c.Operators = operators }))
		seen := map[int]bool{}
		for _, key := range keys {
			got := m.Operator(key)
			if want := operatorOf(key, operators); got != want {
				t.Errorf("Operator(%q) of %d: %d; want %d", key, operators, got, want)
			}
			seen[got] = true
		}
		if len(seen) != operators {
			t.Errorf("%d operators: only %v are met", operators, seen)
		}
	}
}

// P1901: an operator's least mark is of the marks that it was told itself, and of all its sources.
func TestLeastMark(t *testing.T) {
	m := newModel(t, with(func(c *api.Config) { c.Operators, c.Sources = 2, 2 }))
	zero, one := keyAt(0, 2, 0), keyAt(1, 2, 0)
	wantMark(t, m, 0, 0, 100, api.OK)
	take(t, m, item(zero, -50, 1))
	wantMark(t, m, 1, 1, 100, api.OK)
	take(t, m, item(one, -50, 1), item(zero, -50, 1))
	wantMark(t, m, 0, 1, -40, api.OK)
	wantEvent(t, m, item(zero, -31, 1), false, 0, api.ErrOrder)
	wantKill(t, m, cell(zero, -50), api.OK)
	wantEvent(t, m, item(zero, -41, 1), false, api.FLate, api.OK)
	take(t, m, item(zero, -40, 1), item(one, -50, 1))
}

// The chapter's example 1.
func TestExample1(t *testing.T) {
	m := newModel(t, small())
	take(t, m, item("a", 3, 5), item("a", 4, 6))
	wantMap(t, m, api.Row{Cell: cell("a", 0), Agg: api.Agg{Count: 2, Sum: 11, Min: 5, Max: 6}})
	wantAsk(t, m, 1, pin(9), sealed(9, 1))
	take(t, m, item("a", 5, 1))
	wantAsk(t, m, 1, get(1, 0, cell("a", 0)), rows(1, row("a", 0, 5, 6, 1)))
	wantAsk(t, m, 1, get(2, 1, cell("a", 0)), rows(2, row("a", 0, 5, 6)))
	wantAsk(t, m, 2, get(3, 1, cell("a", 0)), bad(3, api.ErrEpoch))
	wantAsk(t, m, 1, pin(4), bad(4, api.ErrPins))
	wantStats(t, m, api.Stats{Taken: 3, Cells: 1, Now: 2})
	wantAsk(t, m, 1, stats(5), counts(5, api.Stats{Taken: 3, Cells: 1, Now: 2}))
	goOn(t, m)
}

// goOn is the chapter's examples 2 and 3, behind example 1.
func goOn(t *testing.T, m *model.Model) {
	t.Helper()
	wantMark(t, m, 0, 0, 10, api.OK)
	wantEvent(t, m, item("a", 11, 1), false, 0, api.ErrOrder)
	wantKill(t, m, cell("a", 0), api.OK)
	wantKill(t, m, cell("a", 0), api.ErrPoint)
	wantEvent(t, m, item("a", 9, 1), false, api.FLate, api.OK)
	wantAsk(t, m, 1, scan(1, 1, 9), rows(1, row("a", 0, 5, 6)))
	wantAsk(t, m, 1, release(2, 1), done(2))
	wantNotHeld(t, m, 1)
	wantAsk(t, m, 1, scan(3, 0, 9), rows(3))
	wantStats(t, m, api.Stats{Taken: 3, Late: 1, Now: 3})
	if r, errno := m.Ask(1, stats(4), api.ErrBusy); errno != api.OK || r.Kind != api.SError || r.Err != api.ErrBusy || r.Id != 4 {
		t.Errorf("refused: %+v, %v", r, errno)
	}
	wantStats(t, m, api.Stats{Taken: 3, Late: 1, Now: 3})
}

// The chapter's example 4.
func TestExample4(t *testing.T) {
	m := newModel(t, small())
	take(t, m, item("b", 20, math.MaxInt64))
	wantEvent(t, m, item("b", 21, 1), false, api.FOverflow, api.OK)
	wantEvent(t, m, item("b", 21, 1), true, 0, api.ErrPoint)
	wantEvent(t, m, item("b", 21, -1), true, api.FFull, api.OK)
	wantEvent(t, m, api.Item{Mark: true, Time: 21}, false, 0, api.ErrArg)
	wantMap(t, m, row("b", 20, math.MaxInt64))
	wantStats(t, m, api.Stats{Taken: 1, Overflow: 1, Full: 1, Cells: 1, Now: 1})
}

// P1907, W3: Map and At tell the cells by View, then Key, byte by byte, then Start.
func TestOrderOfCells(t *testing.T) {
	m := newModel(t, with(func(c *api.Config) {
		c.Views = []api.View{{Size: 10, Slide: 5}, {Size: 7, Slide: 7}}
		c.Operators = 3
	}))
	keys := []string{"b", "a", "\xff", "aa", "a\x00", "\x00", "ab", "é", "B"}
	for _, time := range []int64{3, -3, 12} {
		for _, key := range keys {
			take(t, m, item(key, time, time))
		}
	}
	var want []api.Row
	for view, starts := range [][]int64{{-10, -5, 0, 5, 10}, {-7, 0, 7}} {
		for _, key := range []string{"\x00", "B", "a", "a\x00", "aa", "ab", "b", "é", "\xff"} {
			for _, start := range starts {
				var values []int64
				for _, time := range []int64{3, -3, 12} {
					if size := []int64{10, 7}[view]; time >= start && time < start+size {
						values = append(values, time)
					}
				}
				want = append(want, rowOf(api.Cell{View: view, Key: key, Start: start}, values))
			}
		}
	}
	wantMap(t, m, want...)
	wantAsk(t, m, 5, pin(1), sealed(1, 1))
	take(t, m, item("a", 3, 9))
	wantAt(t, m, 1, want...)
}

// P1907: At tells of epochs that some session holds, and of no others.
func TestAt(t *testing.T) {
	m := newModel(t, with(func(c *api.Config) { c.Pins = 2 }))
	wantAsk(t, m, 1, pin(1), sealed(1, 1))
	take(t, m, item("a", 1, 1))
	wantAsk(t, m, 1, scan(2, 0, 9), rows(2, row("a", 0, 1)))
	wantAsk(t, m, 64, pin(3), sealed(3, 3))
	wantAt(t, m, 1)
	wantAt(t, m, 3, row("a", 0, 1))
	wantNotHeld(t, m, -1, 0, 2, 4)
	wantAsk(t, m, 2, join(4, 3), done(4))
	wantLeave(t, m, 64, 1)
	wantAt(t, m, 3, row("a", 0, 1))
	wantAsk(t, m, 2, release(5, 3), done(5))
	wantNotHeld(t, m, 3)
	wantAt(t, m, 1)
}

// P1907: a twin tells the same, does the same, and has nothing in common with its model.
func TestTwin(t *testing.T) {
	c := with(func(c *api.Config) { c.Pins, c.Sources, c.Operators = 2, 2, 2 })
	zero, one := keyAt(0, 2, 0), keyAt(1, 2, 0)
	m := newModel(t, c)
	take(t, m, item(zero, 1, 7), item(zero, 12, 5), item(one, 1, 8))
	wantAsk(t, m, 1, pin(1), sealed(1, 1))
	wantMark(t, m, 0, 0, 30, api.OK)
	wantMark(t, m, 0, 1, 20, api.OK)
	wantMark(t, m, 1, 1, 5, api.OK)
	before := print(m)
	twin := m.Twin()
	wantPrint(t, twin, before)
	for _, x := range []*model.Model{twin, m} {
		wantKill(t, x, cell(zero, 10), api.ErrOrder)
		wantEvent(t, x, item(zero, 40, 1), false, 0, api.ErrOrder)
		wantKill(t, x, cell(zero, 0), api.OK)
		wantKill(t, x, cell(zero, 10), api.OK)
		wantEvent(t, x, item(zero, 19, 1), false, api.FLate, api.OK)
		wantMark(t, x, 0, 1, 40, api.OK)
		wantEvent(t, x, item(zero, 29, 1), false, api.FLate, api.OK)
		take(t, x, item(zero, 30, 1))
		wantMark(t, x, 1, 0, 10, api.OK)
		take(t, x, item(one, 0, 1))
		wantMark(t, x, 1, 1, 10, api.OK)
		wantKill(t, x, cell(one, 0), api.OK)
		wantAsk(t, x, 2, join(2, 1), done(2))
		wantAsk(t, x, 1, pin(3), sealed(3, 2))
		wantLeave(t, x, 1, 2)
		wantAt(t, x, 1, inOrder(row(zero, 0, 7), row(zero, 10, 5), row(one, 0, 8))...)
		wantLeave(t, x, 2, 1)
		wantStats(t, x, api.Stats{Taken: 5, Late: 2, Cells: 1, Now: 3})
		if x == twin {
			wantPrint(t, m, before)
		}
	}
}
