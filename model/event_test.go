package model_test

import (
	"math"
	"strings"
	"testing"

	"spate/api"
)

// P1902: what of an event may not be is told in the order mark, key, time, dues; nothing is counted.
func TestWrongEvents(t *testing.T) {
	m := newModel(t, small())
	take(t, m, item("a", 3, 5))
	wantMark(t, m, 0, 0, 10, api.OK)
	before := print(m)
	long := strings.Repeat("k", 33)
	for _, full := range []bool{false, true} {
		for _, time := range []int64{-1<<60 - 1, 1<<60 + 1, math.MinInt64, math.MaxInt64, 11} {
			for _, key := range []string{"", long} {
				wantEvent(t, m, api.Item{Mark: true, Key: key, Time: time}, full, 0, api.ErrArg)
				wantEvent(t, m, item(key, time, 1), full, 0, api.ErrKey)
			}
			wantEvent(t, m, api.Item{Mark: true, Key: "a", Time: time, Value: 1}, full, 0, api.ErrArg)
			if time != 11 {
				wantEvent(t, m, item("a", time, 1), full, 0, api.ErrTime)
			}
		}
		// Late, or at a bound, it is all the same: something is due.
		for _, time := range []int64{-1 << 60, 9, 11, 1 << 60} {
			wantEvent(t, m, item("z", time, 1), full, 0, api.ErrOrder)
		}
	}
	wantPrint(t, m, before)
}

// P1902: keys and times at their bounds are right.
func TestBoundsOfEvents(t *testing.T) {
	m := newModel(t, small())
	long := strings.Repeat("\xff", 32)
	take(t, m, item("\x00", -1<<60, math.MinInt64), item(long, 1<<60, math.MaxInt64))
	first, last := startsOf(small().Views[0], -1<<60)[0], startsOf(small().Views[0], 1<<60)[0]
	wantMap(t, m, row("\x00", first, math.MinInt64), row(long, last, math.MaxInt64))
}

// P1902: an event waits only for what is due at its own key's operator.
func TestDuesOfOthers(t *testing.T) {
	m := newModel(t, with(func(c *api.Config) { c.Operators = 2 }))
	zero, too, one := keyAt(0, 2, 0), keyAt(0, 2, 1), keyAt(1, 2, 0)
	take(t, m, item(zero, 3, 5), item(one, 3, 5))
	wantMark(t, m, 0, 0, 10, api.OK)
	wantEvent(t, m, item(too, 50, 1), false, 0, api.ErrOrder)
	take(t, m, item(one, 3, 6), item(one, 50, 6))
	wantKill(t, m, cell(zero, 0), api.OK)
	take(t, m, item(too, 50, 1))
	wantMap(t, m, inOrder(row(too, 50, 1), row(one, 0, 5, 6), row(one, 50, 6))...)
}

// P1902, W10: an event is late under just that mark under which its last window is closed; the lateness that is allowed counts.
func TestLate(t *testing.T) {
	for _, late := range []int64{0, 1, 7, 1 << 40} {
		for _, short := range []int64{0, 1} {
			m := newModel(t, with(func(c *api.Config) { c.Views = []api.View{{Size: 10, Slide: 5, Late: late}} }))
			wantMark(t, m, 0, 0, 20+late-short, api.OK)
			if short == 0 {
				wantEvent(t, m, item("k", 12, 1), false, api.FLate, api.OK)
				wantEvent(t, m, item("k", 12, 1), true, 0, api.ErrPoint)
				wantMap(t, m)
				wantStats(t, m, api.Stats{Late: 1, Now: 1})
				continue
			}
			take(t, m, item("k", 12, 1))
			wantMap(t, m, row("k", 10, 1))
			wantEvent(t, m, item("k", 12, 1), true, api.FFull, api.OK)
		}
	}
}

// P1902, W10: where windows of one view alone are open, these alone are written.
func TestSomeViewsOpen(t *testing.T) {
	m := newModel(t, with(func(c *api.Config) {
		c.Views = []api.View{{Size: 10, Slide: 5}, {Size: 4, Slide: 4}, {Size: 3, Slide: 10}, {Size: 4, Slide: 2, Late: 3}}
	}))
	wantMark(t, m, 0, 0, 8, api.OK)
	take(t, m, item("k", 5, 9))
	wantMap(t, m,
		row("k", 0, 9), row("k", 5, 9),
		rowOf(api.Cell{View: 3, Key: "k", Start: 2}, []int64{9}), rowOf(api.Cell{View: 3, Key: "k", Start: 4}, []int64{9}))
	wantStats(t, m, api.Stats{Taken: 1, Cells: 4, Now: 1})
}

// P1902, W10: an event without windows is taken, and nothing is written; full cannot have been.
func TestWithoutWindows(t *testing.T) {
	m := newModel(t, with(func(c *api.Config) { c.Views = []api.View{{Size: 3, Slide: 10}, {Size: 4, Slide: 20}} }))
	for range 2 {
		take(t, m, item("k", 5, 1))
		wantEvent(t, m, item("k", 5, 1), true, 0, api.ErrPoint)
		wantMark(t, m, 0, 0, 1000, api.OK)
	}
	wantMap(t, m)
	wantStats(t, m, api.Stats{Taken: 2, Now: 1})
	wantEvent(t, m, item("k", 2, 1), false, api.FLate, api.OK)
}

// P1902, W10: if one of its cells overflows, the event is written nowhere; sums that fit to the last are taken.
func TestOverflow(t *testing.T) {
	m := newModel(t, with(func(c *api.Config) { c.Views = []api.View{{Size: 10, Slide: 10}, {Size: 10, Slide: 5}} }))
	take(t, m, item("k", 7, math.MaxInt64))
	was := []api.Row{
		row("k", 0, math.MaxInt64),
		rowOf(api.Cell{View: 1, Key: "k", Start: 0}, []int64{math.MaxInt64}),
		rowOf(api.Cell{View: 1, Key: "k", Start: 5}, []int64{math.MaxInt64}),
	}
	wantMap(t, m, was...)
	for _, time := range []int64{2, 7, 12} {
		wantEvent(t, m, item("k", time, 1), false, api.FOverflow, api.OK)
		wantEvent(t, m, item("k", time, 1), true, 0, api.ErrPoint)
		wantMap(t, m, was...)
	}
	wantStats(t, m, api.Stats{Taken: 1, Overflow: 3, Cells: 3, Now: 1})
	take(t, m, item("k", 15, 1), item("j", 7, 1), item("k", 2, 0), item("k", 2, math.MinInt64))
	wantAsk(t, m, 1, get(1, 0, cell("k", 0)), rows(1, api.Row{Cell: cell("k", 0), Agg: api.Agg{Count: 3, Sum: -1, Min: math.MinInt64, Max: math.MaxInt64}}))
	wantEvent(t, m, item("k", 2, math.MinInt64), false, api.FOverflow, api.OK)
}

// P1902: Full is told just of events that would be taken and written; nothing is written then, but it is counted.
func TestFull(t *testing.T) {
	m := newModel(t, small())
	for n := 1; n <= 3; n++ {
		wantEvent(t, m, item("k", 5, 7), true, api.FFull, api.OK)
		wantMap(t, m)
		wantStats(t, m, api.Stats{Full: n, Now: 1})
	}
	take(t, m, item("k", 5, 7))
	wantEvent(t, m, item("k", 5, 7), true, api.FFull, api.OK)
	wantMap(t, m, row("k", 0, 7))
}

// P1902: there is always room, but for full: a model knows no Slots.
func TestNoSlots(t *testing.T) {
	m := newModel(t, with(func(c *api.Config) {
		c.Slots = 2
		c.Views = []api.View{{Size: 64, Slide: 1}, {Size: 64, Slide: 1}, {Size: 64, Slide: 1}, {Size: 64, Slide: 1}}
	}))
	take(t, m, item("k", 1<<60, 1), item("j", -1<<60, 1))
	wantStats(t, m, api.Stats{Taken: 2, Cells: 512, Now: 1})
}
