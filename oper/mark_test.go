package oper_test

import (
	"math"
	"math/rand/v2"
	"slices"
	"testing"

	"spate/api"
)

// P1405: ErrArg is ahead of ErrTime. P4: nothing stands beside them, and nothing has changed: no cell goes, no mark rises.
func TestMarkErrors(t *testing.T) {
	for sources := 1; sources <= 8; sources++ {
		o := newOper(t, sources, exampleViews()...)
		wantWrote(t, o, api.OK, cell(0, "k", 0), cell(1, "k", 1000))
		for range 2 {
			before := o.Least()
			for _, source := range []int{sources, sources + 1, 8, -1, -2, 1 << 32, math.MinInt, math.MaxInt} {
				for _, time := range append(wrongTimes(), 500, 0, 1<<60, -1<<60) {
					wantNoMark(t, o, source, time, api.ErrArg)
				}
			}
			for source := range sources {
				for _, time := range wrongTimes() {
					wantNoMark(t, o, source, time, api.ErrTime)
				}
			}
			wantState(t, o, before, cell(0, "k", 0), cell(1, "k", 1000))
			for source := range sources {
				wantMark(t, o, source, 9)
			}
		}
		wantState(t, o, 9, cell(0, "k", 0), cell(1, "k", 1000))
	}
}

// P1405: a cell goes just when the least mark is at its window's end and Late, each view's by its own.
func TestMarkCloses(t *testing.T) {
	o := newOper(t, 1, api.View{Size: 10, Slide: 10}, api.View{Size: 10, Slide: 10, Late: 1}, api.View{Size: 2, Slide: 10}, api.View{Size: 20, Slide: 10, Late: 5})
	for view := range 4 {
		wantWrote(t, o, api.OK, cell(view, "k", 0), cell(view, "k", -10))
	}
	wantMark(t, o, 0, -9)
	wantMark(t, o, 0, -8, cell(2, "k", -10))
	wantMark(t, o, 0, -1)
	wantMark(t, o, 0, 0, cell(0, "k", -10))
	wantMark(t, o, 0, 1, cell(1, "k", -10))
	wantMark(t, o, 0, 2, cell(2, "k", 0))
	wantMark(t, o, 0, 9)
	wantMark(t, o, 0, 11, cell(0, "k", 0), cell(1, "k", 0))
	wantMark(t, o, 0, 14)
	wantMark(t, o, 0, 15, cell(3, "k", -10))
	wantMark(t, o, 0, 24)
	wantState(t, o, 24, cell(3, "k", 0))
	wantMark(t, o, 0, 25, cell(3, "k", 0))
	wantState(t, o, 25)
}

// P1405, P1406: in the order of cells: view, key byte by byte with a front ahead, start; not in that of closing or of writing.
func TestMarkInOrder(t *testing.T) {
	want := []api.Cell{
		cell(0, "\x00", 10), cell(0, "a", -10), cell(0, "a", 0), cell(0, "a", 10), cell(0, "a\x00", -10), cell(0, "ab", -20), cell(0, "b", -10), cell(0, "\x80", 0), cell(0, "\xff", -30),
		cell(1, "A", 5), cell(1, "a", -15), cell(1, "a", 0), cell(1, "aa", -15),
	}
	r := rand.New(rand.NewPCG(3, 3))
	for range 50 {
		o := newOper(t, 1, exampleViews()...)
		for _, n := range r.Perm(len(want)) {
			wantWrote(t, o, api.OK, want[n])
		}
		wantState(t, o, api.NoMark, want...)
		wantMark(t, o, 0, 20, want...)
		wantState(t, o, 20)
	}
}

// P1405: only the least mark closes windows, whichever source has it.
func TestMarkUnderLeast(t *testing.T) {
	c := cell(0, "k", 0)
	for low := range 3 {
		o := newOper(t, 3, exampleViews()...)
		wantWrote(t, o, api.OK, c)
		for source := range 3 {
			if source != low {
				wantMark(t, o, source, 1000)
			}
		}
		wantState(t, o, api.NoMark, c)
		wantTake(t, o, "k", 4, false, cell(0, "k", 0), cell(1, "k", -5), cell(1, "k", 0))
		wantMark(t, o, low, 9)
		wantState(t, o, 9, c)
		wantMark(t, o, low, 10, c)
		wantState(t, o, 10)
		wantMark(t, o, low, 2000)
		wantState(t, o, 1000)
	}
}

// P1405: a mark that is not above the source's own changes nothing, though it be above another's.
func TestMarkNotAbove(t *testing.T) {
	o := newOper(t, 2, exampleViews()...)
	wantMark(t, o, 0, 50)
	wantMark(t, o, 1, 5)
	wantWrote(t, o, api.OK, cell(0, "k", 0), cell(0, "k", 40))
	for _, time := range []int64{50, 49, 10, 5, 0, -1 << 60} {
		wantMark(t, o, 0, time)
	}
	for _, time := range []int64{5, 4, -1 << 60} {
		wantMark(t, o, 1, time)
	}
	wantState(t, o, 5, cell(0, "k", 0), cell(0, "k", 40))
	wantMark(t, o, 1, 60, cell(0, "k", 0), cell(0, "k", 40))
	wantState(t, o, 50)
}

// P1405, P1406: the least and the greatest time are marks.
func TestMarkAtTheBounds(t *testing.T) {
	o := newOper(t, 1, api.View{Size: 1, Slide: 1})
	wantWrote(t, o, api.OK, cell(0, "k", -1<<61), cell(0, "k", -1<<60-1), cell(0, "k", -1<<60), cell(0, "k", 1<<60-1), cell(0, "k", 1<<60))
	wantMark(t, o, 0, -1<<60, cell(0, "k", -1<<61), cell(0, "k", -1<<60-1))
	wantState(t, o, -1<<60, cell(0, "k", -1<<60), cell(0, "k", 1<<60-1), cell(0, "k", 1<<60))
	wantMark(t, o, 0, 1<<60, cell(0, "k", -1<<60), cell(0, "k", 1<<60-1))
	wantState(t, o, 1<<60, cell(0, "k", 1<<60))
	wantTake(t, o, "k", 1<<60, false, cell(0, "k", 1<<60))
	wantTake(t, o, "k", 1<<60-1, true)
}

// P1406: as long as one source told none, whichever, Least is NoMark; then it is the least of all.
func TestLeast(t *testing.T) {
	for sources := 1; sources <= 8; sources++ {
		for silent := range sources {
			x := newBoth(t, sources, exampleViews()...)
			for source := range sources {
				if source != silent {
					x.mark(source, int64(20+source))
				}
			}
			wantState(t, x.o, -1<<62)
			x.mark(silent, 3)
			wantState(t, x.o, 3)
			x.mark(silent, 1000)
			x.same()
		}
	}
}

// P1406: Live tells all of a cell, in order, and is asked as often as one likes.
func TestLive(t *testing.T) {
	o := newOper(t, 1, exampleViews()...)
	wantState(t, o, api.NoMark)
	want := []api.Cell{cell(0, "a", -10), cell(0, "a", 0), cell(0, "b", -20), cell(1, "a", -5), cell(1, "a", 5)}
	for n := range want {
		wantWrote(t, o, api.OK, want[len(want)-1-n])
		wantState(t, o, api.NoMark, want[len(want)-1-n:]...)
		wantState(t, o, api.NoMark, want[len(want)-1-n:]...)
	}
	left := slices.Clone(want)
	for mark := int64(-15); mark <= 20; mark++ {
		gone, _ := o.Mark(0, mark)
		left = slices.DeleteFunc(left, func(c api.Cell) bool { return slices.Contains(gone, c) })
		wantState(t, o, mark, left...)
	}
	if len(left) > 0 {
		t.Errorf("%v are left", left)
	}
}
