package oper_test

import (
	"errors"
	"math"
	"math/rand/v2"
	"slices"
	"strings"
	"testing"

	"spate/agg"
	"spate/api"
	"spate/oper"
)

// P1401: an operator of just these views and so many sources, without a mark and without live cells.
func TestNew(t *testing.T) {
	for sources := 1; sources <= 8; sources++ {
		for n := 1; n <= 4; n++ {
			x := newBoth(t, sources, slices.Repeat([]api.View{{Size: 3, Slide: 2, Late: 1}}, n)...)
			wantState(t, x.o, -1<<62)
			wantNoMark(t, x.o, sources, 0, api.ErrArg)
			wantWrote(t, x.o, api.ErrView, cell(n, "k", 0))
			if a := x.take("k", 0); len(a.cells) != 2*n || a.late {
				t.Errorf("of %d views: %v", n, a)
			}
			x.wrote(cell(n-1, "k", 0))
			for source := range sources {
				x.mark(source, 4)
			}
			wantState(t, x.o, 4)
		}
	}
}

// P1401: views at the bounds of their fields are right, in all places.
func TestNewAtTheBounds(t *testing.T) {
	for _, v := range wideViews() {
		for _, w := range wideViews() {
			x := newBoth(t, 8, v, w, v, w)
			x.take("k", 0)
		}
	}
}

// P1401: wrong numbers of views, a wrong one among right ones; ErrConfig is ahead of ErrArg. P4: no operator beside an error.
func TestNewErrors(t *testing.T) {
	want := func(views []api.View, sources int, why api.Errno) {
		t.Helper()
		if o, errno := oper.New(views, sources); o != nil || errno != why {
			t.Errorf("New(%v, %d): %v, %v; want %v", views, sources, o, errno, why)
		}
	}
	right := api.View{Size: 10, Slide: 10}
	wrongSources := []int{0, 9, -1, 10, 16, -8, 1 << 32, 1<<32 + 1, math.MinInt, math.MaxInt}
	for _, sources := range append(wrongSources, 1, 8) {
		for _, n := range []int{0, 5, 6, 8, 256, 257} {
			want(slices.Repeat([]api.View{right}, n), sources, api.ErrConfig)
		}
		for _, v := range wrongViews() {
			for n := 1; n <= 4; n++ {
				for place := range n {
					views := slices.Repeat([]api.View{right}, n)
					views[place] = v
					want(views, sources, api.ErrConfig)
				}
			}
		}
	}
	for _, sources := range wrongSources {
		for n := 1; n <= 4; n++ {
			want(slices.Repeat([]api.View{right}, n), sources, api.ErrArg)
		}
	}
}

// P1402, P1404, P1405, P1406: examples 1 and 2.
func TestExamplesOfWindows(t *testing.T) {
	o := newOper(t, 1, exampleViews()...)
	three := []api.Cell{cell(0, "k", 10), cell(1, "k", 5), cell(1, "k", 10)}
	wantTake(t, o, "k", 12, false, three...)
	wantState(t, o, api.NoMark)
	wantWrote(t, o, api.OK, three...)
	wantState(t, o, api.NoMark, three...)
	wantMark(t, o, 0, 15)
	wantMark(t, o, 0, 18, cell(1, "k", 5))
	wantMark(t, o, 0, 17)
	wantState(t, o, 18, cell(0, "k", 10), cell(1, "k", 10))

	wantTake(t, o, "k", 9, true)
	wantTake(t, o, "k", 14, false, cell(0, "k", 10), cell(1, "k", 10))
	wantWrote(t, o, api.ErrLate, cell(1, "k", 5))
	wantWrote(t, o, api.ErrField, cell(1, "k", 6))
	wantWrote(t, o, api.ErrView, cell(2, "k", 0))
	wantState(t, o, 18, cell(0, "k", 10), cell(1, "k", 10))
}

// P1402, P1405, P1406: examples 3 and 4.
func TestExamplesOfGapsAndSources(t *testing.T) {
	o := newOper(t, 2, api.View{Size: 2, Slide: 10})
	wantTake(t, o, "k", 5, false)
	wantMark(t, o, 0, 100)
	wantState(t, o, -1<<62)
	wantTake(t, o, "k", 0, false, cell(0, "k", 0))
	wantMark(t, o, 1, 2)
	wantState(t, o, 2)
	wantTake(t, o, "k", 0, true)
	wantTake(t, o, "k", 5, false)
}

// P1402: ErrKey is ahead of ErrTime. P4: zero values stand beside them.
func TestTakeErrors(t *testing.T) {
	o := newOper(t, 2, exampleViews()...)
	for range 2 {
		for _, key := range wrongKeys() {
			for _, time := range append(wrongTimes(), 0, 12, -1<<60, 1<<60) {
				wantNoTake(t, o, key, time, api.ErrKey)
			}
		}
		for _, key := range rightKeys() {
			for _, time := range wrongTimes() {
				wantNoTake(t, o, key, time, api.ErrTime)
			}
		}
		wantMark(t, o, 0, 1<<60)
		wantMark(t, o, 1, 1<<60)
	}
}

// P1402: of all keys and times that may be; the cells have the key whole.
func TestTakeAnyKey(t *testing.T) {
	x := newBoth(t, 1, exampleViews()...)
	for _, key := range rightKeys() {
		for _, time := range []int64{-1 << 60, -1, 0, 4, 5, 1 << 60} {
			a := x.take(key, time)
			if len(a.cells) != 3 || a.errno != api.OK {
				t.Errorf("Take(%q, %d): %v", key, time, a)
			}
			for _, c := range a.cells {
				if c.Key != key {
					t.Errorf("%v: its key is not %q", c, key)
				}
			}
		}
	}
}

// P1402: views in the order of their numbers, not of their windows; one that is there twice has its cells twice.
func TestTakeInOrder(t *testing.T) {
	o := newOper(t, 1, api.View{Size: 9, Slide: 3}, api.View{Size: 100, Slide: 100}, api.View{Size: 9, Slide: 3}, api.View{Size: 2, Slide: 2})
	wantTake(t, o, "k", 7, false, cell(0, "k", 0), cell(0, "k", 3), cell(0, "k", 6), cell(1, "k", 0), cell(2, "k", 0), cell(2, "k", 3), cell(2, "k", 6), cell(3, "k", 6))
	wantTake(t, o, "k", -1, false, cell(0, "k", -9), cell(0, "k", -6), cell(0, "k", -3), cell(1, "k", -100), cell(2, "k", -9), cell(2, "k", -6), cell(2, "k", -3), cell(3, "k", -2))
}

// P1402: an event is late just if it has windows, and all are closed, each view's by its own Late.
func TestTakeLate(t *testing.T) {
	gap, one, long := api.View{Size: 3, Slide: 10}, api.View{Size: 1, Slide: 1, Late: 4}, api.View{Size: 100, Slide: 100}
	at := func(mark int64, views ...api.View) *oper.Oper {
		o := newOper(t, 1, views...)
		wantMark(t, o, 0, mark)
		return o
	}
	wantTake(t, at(9, gap, one), "k", 5, false, cell(1, "k", 5))
	wantTake(t, at(10, gap, one), "k", 5, true)
	wantTake(t, at(10, one, gap), "k", 5, true)
	wantTake(t, at(10, gap), "k", 5, false)
	wantTake(t, at(10, gap, gap, gap, gap), "k", 5, false)
	wantTake(t, at(2, gap), "k", 2, false, cell(0, "k", 0))
	wantTake(t, at(3, gap), "k", 2, true)
	wantTake(t, at(10, one, gap, long), "k", 5, false, cell(2, "k", 0))
	wantTake(t, at(99, long, gap, one), "k", 5, false, cell(0, "k", 0))
	wantTake(t, at(100, long, gap, one), "k", 5, true)
	wantTake(t, at(1<<60, long, gap, one), "k", -1<<60, true)
	wantTake(t, at(-1<<60, long, gap, one), "k", 5, false, cell(0, "k", 0), cell(2, "k", 5))
}

// P1402: nothing has changed by it: no cell is live, no mark is other, and it tells the same again.
func TestTakeChangesNothing(t *testing.T) {
	o := newOper(t, 1, exampleViews()...)
	wantWrote(t, o, api.OK, cell(0, "b", 20))
	for _, mark := range []int64{-50, 15, 18} {
		wantMark(t, o, 0, mark)
		for time := int64(-30); time <= 30; time++ {
			for _, key := range []string{"a", "b"} {
				first := take(o, key, time)
				if !first.same(take(o, key, time)) {
					t.Errorf("Take(%q, %d): not twice the same", key, time)
				}
			}
		}
		wantState(t, o, mark, cell(0, "b", 20))
	}
	wantMark(t, o, 0, 1000, cell(0, "b", 20))
}

// P1402: four views of 64 windows: 256 cells, of which fewer and fewer are open.
func TestTakeMostCells(t *testing.T) {
	const slide = api.MaxSpan / 64
	views := slices.Repeat([]api.View{{Size: api.MaxSpan, Slide: slide, Late: api.MaxSpan}}, 4)
	key := strings.Repeat("\xff", 32)
	for _, time := range []int64{-api.MaxTime, -1, 0} {
		x := newBoth(t, 1, views...)
		all := x.take(key, time).cells
		if len(all) != 256 {
			t.Fatalf("%d: %d cells", time, len(all))
		}
		x.wrote(all...)
		for gone := 1; gone <= 64; gone++ {
			closing := all[gone-1].Start + views[0].Size + views[0].Late
			x.mark(0, closing-1)
			if a := x.take(key, time); len(a.cells) != 4*(65-gone) || a.late {
				t.Errorf("%d: %d cells, late: %v; %d closed", time, len(a.cells), a.late, gone-1)
			}
			if told, _ := x.mark(0, closing); len(told) != 4 {
				t.Errorf("%d: %d went; want 4", time, len(told))
			}
			if a := x.take(key, time); len(a.cells) != 4*(64-gone) || a.late != (gone == 64) {
				t.Errorf("%d: %d cells, late: %v; %d closed", time, len(a.cells), a.late, gone)
			}
		}
	}
}

// P1403: what a cell is behind a value; the first value is the least and the greatest.
func TestReckon(t *testing.T) {
	o := newOper(t, 1, exampleViews()...)
	a := api.Agg{}
	for _, step := range []struct {
		value int64
		want  api.Agg
	}{
		{4, api.Agg{Count: 1, Sum: 4, Min: 4, Max: 4}},
		{-2, api.Agg{Count: 2, Sum: 2, Min: -2, Max: 4}},
		{9, api.Agg{Count: 3, Sum: 11, Min: -2, Max: 9}},
		{most - 11, api.Agg{Count: 4, Sum: most, Min: -2, Max: most - 11}},
		{least, api.Agg{Count: 5, Sum: -1, Min: least, Max: most - 11}},
	} {
		next, err := o.Reckon(a, step.value)
		if err != nil || next != step.want {
			t.Errorf("Reckon(%v, %d): %v, %v; want %v", a, step.value, next, err, step.want)
		}
		a = next
	}
	wantState(t, o, api.NoMark)
}

// P1403: what does not fit is told by an error that wraps ErrOverflow, agg's own; P4: zero values stand beside it.
func TestReckonErrors(t *testing.T) {
	o := newOper(t, 1, exampleViews()...)
	for _, c := range []struct {
		a     api.Agg
		value int64
		want  agg.Overflow
	}{
		{api.Agg{Count: 1, Sum: 1 << 62, Min: 1 << 62, Max: 1 << 62}, 1 << 62, agg.Overflow{Op: '+', A: 1 << 62, B: 1 << 62}},
		{api.Agg{Count: 1, Sum: most, Min: most, Max: most}, 1, agg.Overflow{Op: '+', A: most, B: 1}},
		{api.Agg{Count: 1, Sum: least, Min: least, Max: least}, -1, agg.Overflow{Op: '+', A: least, B: -1}},
		{api.Agg{Count: most}, 0, agg.Overflow{Op: '+', A: most, B: 1}},
		{api.Agg{Count: most, Sum: most, Min: 1, Max: 1}, most, agg.Overflow{Op: '+', A: most, B: 1}},
	} {
		a, err := o.Reckon(c.a, c.value)
		var fault *agg.Overflow
		if a != (api.Agg{}) || !errors.Is(err, api.ErrOverflow) || !errors.As(err, &fault) || *fault != c.want {
			t.Errorf("Reckon(%v, %d): %v, %v; want %v", c.a, c.value, a, err, &c.want)
		}
	}
}

// P1403: of any aggregates what agg.Put tells, whatever the operator has heard.
func TestReckonAny(t *testing.T) {
	r := rand.New(rand.NewPCG(1, 1))
	o := newOper(t, 1, exampleViews()...)
	faults, others := 0, 0
	for range 3000 {
		value := int64(r.Uint64()) >> r.IntN(2)
		a, err := agg.Fold([]int64{int64(r.Uint64()) >> r.IntN(2), int64(r.Uint64()) >> r.IntN(63)}[:r.IntN(3)])
		if err != nil {
			continue
		}
		got, gotErr := o.Reckon(a, value)
		want, wantErr := agg.Put(a, value)
		if got != want || (gotErr == nil) != (wantErr == nil) || gotErr != nil && gotErr.Error() != wantErr.Error() {
			t.Fatalf("Reckon(%v, %d): %v, %v; want %v, %v", a, value, got, gotErr, want, wantErr)
		}
		if gotErr != nil {
			faults++
		} else {
			others++
		}
		o.Mark(0, anyTime(r))
	}
	if faults < 100 || others < 1000 {
		t.Errorf("%d faults, %d others: this tests too little", faults, others)
	}
}
