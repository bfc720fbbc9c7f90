package mark_test

import (
	"math/rand/v2"
	"slices"
	"testing"

	"spate/api"
)

// exampleViews are example 2's.
func exampleViews() []api.View {
	return []api.View{{Size: 10, Slide: 5}, {Size: 4, Slide: 4}}
}

// P1304: example 2.
func TestExampleOfOpen(t *testing.T) {
	m := under(t, 7)
	wantOpen(t, m, exampleViews(), 2, false, at(0, 0))
	wantOpen(t, m, exampleViews(), -9, true)
	wantOpen(t, m, []api.View{{Size: 3, Slide: 10}}, 5, false)
}

// P1304: example 2's views under the marks around their ends.
func TestOpenAroundEnds(t *testing.T) {
	views := exampleViews()
	all := []api.Cell{at(0, -5), at(0, 0), at(1, 0)}
	wantOpen(t, newMarks(t, 1), views, 2, false, all...)
	wantOpen(t, under(t, -1<<60), views, 2, false, all...)
	wantOpen(t, under(t, 3), views, 2, false, all...)
	wantOpen(t, under(t, 4), views, 2, false, all[:2]...)
	wantOpen(t, under(t, 5), views, 2, false, all[1])
	wantOpen(t, under(t, 9), views, 2, false, all[1])
	wantOpen(t, under(t, 10), views, 2, true)
	wantOpen(t, under(t, 1<<60), views, 2, true)
}

// P1304, W2: a window stays open as long as its end and Late are above the mark, each view's by its own.
func TestOpenWithLateness(t *testing.T) {
	views := []api.View{{Size: 10, Slide: 10, Late: 7}, {Size: 10, Slide: 10}, {Size: 10, Slide: 10, Late: 1}}
	wantOpen(t, under(t, 9), views, 3, false, at(0, 0), at(1, 0), at(2, 0))
	wantOpen(t, under(t, 10), views, 3, false, at(0, 0), at(2, 0))
	wantOpen(t, under(t, 11), views, 3, false, at(0, 0))
	wantOpen(t, under(t, 16), views, 3, false, at(0, 0))
	wantOpen(t, under(t, 17), views, 3, true)
}

// P1304: a time is late just if a view has a window with it, and no view an open one.
func TestLate(t *testing.T) {
	gap, one, long := api.View{Size: 3, Slide: 10}, api.View{Size: 1, Slide: 1}, api.View{Size: 100, Slide: 100}
	m := under(t, 20)
	wantOpen(t, m, nil, 5, false)
	wantOpen(t, m, nil, 25, false)
	wantOpen(t, m, []api.View{gap}, 5, false)
	wantOpen(t, m, []api.View{gap, gap, gap, gap}, 5, false)
	wantOpen(t, m, []api.View{gap}, 2, true)
	wantOpen(t, m, []api.View{gap, one}, 5, true)
	wantOpen(t, m, []api.View{one, gap}, 5, true)
	wantOpen(t, m, []api.View{one, gap, long}, 5, false, at(2, 0))
	wantOpen(t, m, []api.View{long, gap, one}, 5, false, at(0, 0))
	wantOpen(t, m, []api.View{gap, long}, 5, false, at(1, 0))
	wantOpen(t, m, []api.View{one, gap}, 20, false, at(0, 20), at(1, 20))
	wantOpen(t, m, []api.View{one, gap}, 25, false, at(0, 25))
	wantOpen(t, m, []api.View{gap}, 25, false)
}

// P1304: a view that is there twice has its cells twice, under both numbers.
func TestOneViewTwice(t *testing.T) {
	v := api.View{Size: 10, Slide: 5}
	wantOpen(t, under(t, 5), []api.View{v, v, {Size: 1, Slide: 2}, v}, 7, false,
		at(0, 0), at(0, 5), at(1, 0), at(1, 5), at(3, 0), at(3, 5))
}

// P1304: Least counts alone, whichever source has it.
func TestOpenUnderLeast(t *testing.T) {
	v := api.View{Size: 10, Slide: 10}
	for low := range 3 {
		m := newMarks(t, 3)
		for source := range 3 {
			wantOpen(t, m, []api.View{v}, 5, false, at(0, 0))
			if source != low {
				m.Rise(source, 1000)
			}
		}
		wantOpen(t, m, []api.View{v}, 5, false, at(0, 0))
		m.Rise(low, 9)
		wantOpen(t, m, []api.View{v}, 5, false, at(0, 0))
		m.Rise(low, 10)
		wantOpen(t, m, []api.View{v}, 5, true)
		wantOpen(t, m, []api.View{v}, 10, false, at(0, 10))
	}
}

// P1304: four views of 64 windows: 256 cells, of which fewer and fewer are open.
func TestMostCells(t *testing.T) {
	const slide = api.MaxSpan / 64
	views := slices.Repeat([]api.View{{Size: api.MaxSpan, Slide: slide, Late: api.MaxSpan}}, 4)
	for _, time := range []int64{-api.MaxTime, -1, 0, api.MaxTime} {
		x := newBoth(t, 1)
		if a := x.open(time, views...); len(a.cells) != 256 || a.late {
			t.Errorf("%d: %d cells, late: %v", time, len(a.cells), a.late)
		}
		for gone := 1; gone <= 64; gone++ {
			start := startsOf(views[0], time)[gone-1]
			closing := start + views[0].Size + views[0].Late
			if closing > api.MaxTime {
				break // no mark gets there
			}
			x.rise(0, closing-1)
			if a := x.open(time, views...); len(a.cells) != 4*(65-gone) || a.late {
				t.Errorf("%d: %d cells, late: %v; %d closed", time, len(a.cells), a.late, gone-1)
			}
			x.rise(0, closing)
			if a := x.open(time, views...); len(a.cells) != 4*(64-gone) || a.late != (gone == 64) {
				t.Errorf("%d: %d cells, late: %v; %d closed", time, len(a.cells), a.late, gone)
			}
		}
	}
}

// P1304: ErrMany, then ErrView wherever the wrong one stands, then ErrTime, also without views; nothing beside them (P4).
func TestOpenErrors(t *testing.T) {
	m := under(t, 7)
	right, wrong := api.View{Size: 10, Slide: 5}, api.View{Size: 65, Slide: 1}
	for _, time := range append(wrongTimes(), 0, 100, -1<<60, 1<<60) {
		for _, n := range []int{5, 6, 64, 1 << 16} {
			wantNone(t, m, slices.Repeat([]api.View{right}, n), time, api.ErrMany)
			wantNone(t, m, slices.Repeat([]api.View{wrong}, n), time, api.ErrMany)
		}
		for n := 1; n <= 4; n++ {
			for place := range n {
				for _, v := range wrongViews() {
					views := slices.Repeat([]api.View{right}, n)
					views[place] = v
					wantNone(t, m, views, time, api.ErrView)
				}
			}
		}
	}
	for n := range 5 {
		for _, time := range wrongTimes() {
			wantNone(t, m, slices.Repeat([]api.View{right}, n), time, api.ErrTime)
		}
	}
	wantMarks(t, m, 7)
}

// P1304: at the bounds of times and views, under marks at the bounds and around the closing of each window.
func TestOpenFarOut(t *testing.T) {
	for _, v := range wideViews() {
		for _, time := range []int64{-api.MaxTime, -api.MaxTime + 1, -1, 0, 1, api.MaxTime - 1, api.MaxTime} {
			marks := []int64{-api.MaxTime, -api.MaxTime + 1, api.MaxTime}
			for _, start := range startsOf(v, time) {
				closing := start + v.Size + v.Late
				marks = append(marks, closing-1, closing)
			}
			slices.Sort(marks)
			x := newBoth(t, 1)
			x.open(time, v)
			for _, mark := range marks {
				if mark >= -api.MaxTime && mark <= api.MaxTime {
					x.rise(0, mark)
					x.open(time, v, api.View{Size: 3, Slide: 4}, v)
				}
			}
		}
	}
}

// P1304: whatever is asked, by chance, Open tells what the plain likeness does.
func TestOpenOfAny(t *testing.T) {
	r := rand.New(rand.NewPCG(2, 2))
	some, none, late := 0, 0, 0
	for range 2000 {
		x := newBoth(t, 1+r.IntN(3))
		views, around := anyViews(r), anyTime(r)
		far := int64(5)
		for _, v := range views {
			far = max(far, v.Size+v.Late)
		}
		for range 12 {
			for source := range x.p.told {
				x.rise(source, near(r, around, far))
			}
			a := x.open(near(r, around, far), views...)
			switch {
			case len(a.cells) > 0:
				some++
			case a.late:
				late++
			default:
				none++
			}
		}
	}
	if some < 2000 || none < 2000 || late < 2000 {
		t.Errorf("%d open, %d without windows, %d late: this tests too little", some, none, late)
	}
}
