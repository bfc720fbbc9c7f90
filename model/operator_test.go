package model_test

import (
	"math"
	"testing"

	"spate/api"
)

// P1903: what of a mark may not be is told in the order operator and source, time, dues; nothing is heard then.
func TestWrongMarks(t *testing.T) {
	m := newModel(t, with(func(c *api.Config) { c.Operators, c.Sources = 3, 2 }))
	key := keyAt(1, 3, 0)
	take(t, m, item(key, 3, 5))
	wantMark(t, m, 1, 0, 10, api.OK)
	wantMark(t, m, 1, 1, 12, api.OK)
	numbers := []int{math.MinInt, -1, 3, 8, math.MaxInt}
	for _, time := range []int64{11, -1<<60 - 1, 1<<60 + 1, -1 << 62, math.MinInt64, math.MaxInt64} {
		for _, n := range append(numbers, 2) {
			wantMark(t, m, 1, n, time, api.ErrArg)
			if n != 2 {
				wantMark(t, m, n, 0, time, api.ErrArg)
				wantMark(t, m, n, n, time, api.ErrArg)
			}
		}
		if time != 11 {
			wantMark(t, m, 1, 0, time, api.ErrTime)
			wantMark(t, m, 0, 1, time, api.ErrTime)
		}
	}
	for _, time := range []int64{-1 << 60, 5, 30, 1 << 60} {
		wantMark(t, m, 1, 0, time, api.ErrOrder)
		wantMark(t, m, 1, 1, time, api.ErrOrder)
		wantMark(t, m, 0, 0, time, api.OK)
	}
	wantKill(t, m, cell(key, 0), api.OK)
	// The mark at source 0 is 10 still: time 11 is open, and 10, too.
	take(t, m, item(key, 10, 1))
	wantEvent(t, m, item(key, 9, 1), false, api.FLate, api.OK)
}

// P1903: a lower mark changes nothing; the least one counts; marks at the bounds are right.
func TestMarks(t *testing.T) {
	m := newModel(t, with(func(c *api.Config) { c.Sources = 2 }))
	take(t, m, item("k", 5, 1))
	wantMark(t, m, 0, 0, 1<<60, api.OK)
	take(t, m, item("k", 5, 1))
	wantMark(t, m, 0, 1, -1<<60, api.OK)
	for _, time := range []int64{9, 3, -1 << 60, 9} {
		wantMark(t, m, 0, 1, time, api.OK)
		take(t, m, item("k", 5, 1))
	}
	wantMark(t, m, 0, 1, 10, api.OK)
	wantMark(t, m, 0, 1, 10, api.ErrOrder)
	wantKill(t, m, cell("k", 0), api.OK)
	wantMark(t, m, 0, 0, 0, api.OK)
	wantMark(t, m, 0, 1, 0, api.OK)
	wantEvent(t, m, item("k", 9, 1), false, api.FLate, api.OK)
	take(t, m, item("k", 1<<60, 1))
	wantMark(t, m, 0, 1, 1<<60, api.OK)
	take(t, m, item("k", 1<<60, 1))
	wantEvent(t, m, item("k", 1<<60-100, 1), false, api.FLate, api.OK)
}

// P1904: cells go by W3's order of the operator's own, whatever was written first; what is not due does not go.
func TestKillInOrder(t *testing.T) {
	m := newModel(t, with(func(c *api.Config) {
		c.Operators = 2
		c.Views = []api.View{{Size: 10, Slide: 5}, {Size: 4, Slide: 4, Late: 2}}
	}))
	a, b, other := keyAt(0, 2, 0), keyAt(0, 2, 1), keyAt(1, 2, 0)
	if a > b {
		a, b = b, a
	}
	take(t, m, item(b, 7, 1), item(other, 7, 1), item(a, 7, 1), item(a, -4, 1), item(a, 20, 1))
	wantKill(t, m, cell(a, -10), api.ErrPoint)
	wantMark(t, m, 0, 0, 12, api.OK)
	due := []api.Cell{cell(a, -10), cell(a, -5), cell(a, 0), cell(b, 0), {View: 1, Key: a, Start: -4}, {View: 1, Key: a, Start: 4}, {View: 1, Key: b, Start: 4}}
	open := []api.Cell{cell(a, 5), cell(b, 5), cell(a, 20), cell(other, 0), {View: 1, Key: other, Start: 4}, {View: 1, Key: a, Start: 20}}
	for i, next := range due {
		for _, c := range due[i+1:] {
			wantKill(t, m, c, api.ErrOrder)
		}
		for _, c := range append(open, due[:i]...) {
			wantKill(t, m, c, api.ErrPoint)
		}
		wantEvent(t, m, item(a, 20, 1), false, 0, api.ErrOrder)
		wantMark(t, m, 0, 0, 13, api.ErrOrder)
		wantKill(t, m, next, api.OK)
		wantStats(t, m, api.Stats{Taken: 5, Cells: 16 - i - 1 - 1, Now: 1})
	}
	wantMark(t, m, 0, 0, 13, api.OK)
	take(t, m, item(a, 20, 1))
}

// P1904: cells that may not be, or of views that are none, are not there.
func TestKillOfNothing(t *testing.T) {
	m := newModel(t, small())
	take(t, m, item("k", 5, 1))
	wantMark(t, m, 0, 0, 10, api.OK)
	before := print(m)
	for _, c := range []api.Cell{{}, cell("k", 1), cell("k", 10), cell("k", -10), cell("", 0), cell("kk", 0), cell("k", math.MinInt64), cell("k", math.MaxInt64), {View: 1, Key: "k"}, {View: -1, Key: "k"}, {View: 4, Key: "k"}, {View: math.MaxInt, Key: "k"}, {View: math.MinInt}} {
		wantKill(t, m, c, api.ErrPoint)
	}
	wantPrint(t, m, before)
	wantKill(t, m, cell("k", 0), api.OK)
}

// P1904: what is gone does not come back, but a cell of the same key in another window may come.
func TestGoneForGood(t *testing.T) {
	m := newModel(t, small())
	take(t, m, item("k", 5, 1), item("k", 12, 1))
	wantMark(t, m, 0, 0, 10, api.OK)
	wantKill(t, m, cell("k", 0), api.OK)
	wantEvent(t, m, item("k", 5, 1), false, api.FLate, api.OK)
	wantMap(t, m, row("k", 10, 1))
	wantMark(t, m, 0, 0, 20, api.OK)
	wantKill(t, m, cell("k", 0), api.ErrPoint)
	wantKill(t, m, cell("k", 10), api.OK)
	wantMap(t, m)
	take(t, m, item("k", 20, 3))
	wantMap(t, m, row("k", 20, 3))
}
