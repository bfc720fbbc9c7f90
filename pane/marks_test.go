package pane_test

import (
	"math/rand/v2"
	"slices"
	"testing"

	"spate/api"
	"spate/pane"
)

// P403: End, and Closed just from the mark on that is the end and Late; examples 1 and 4.
func TestEndAndClosed(t *testing.T) {
	two := api.View{Size: 10, Slide: 5}
	late := api.View{Size: 10, Slide: 10, Late: 7}
	if pane.End(two, 5) != 15 || pane.End(two, -10) != 0 || pane.End(late, 0) != 10 {
		t.Errorf("ends: %d, %d, %d", pane.End(two, 5), pane.End(two, -10), pane.End(late, 0))
	}
	if pane.Closed(two, 5, 14) || !pane.Closed(two, 5, 15) {
		t.Error("5 is closed under 15, not under 14")
	}
	if pane.Closed(late, 0, 16) || !pane.Closed(late, 0, 17) {
		t.Error("0 is closed under 17, not under 16")
	}
}

// P403: of any starts and marks that may be, their bounds among them.
func TestClosedOfAny(t *testing.T) {
	r := rand.New(rand.NewPCG(3, 3))
	starts := []int64{-api.MaxStart, -api.MaxStart + 1, -1, 0, 1, api.MaxStart - 1, api.MaxStart}
	closed, open := 0, 0
	for _, v := range append(wideViews(), anyView(r), anyView(r)) {
		for _, start := range append(starts, anyTime(r), anyTime(r)) {
			if end := pane.End(v, start); end != start+v.Size {
				t.Errorf("End(%+v, %d): %d", v, start, end)
			}
			at := start + v.Size + v.Late
			for _, mark := range []int64{api.NoMark, at - v.Late, at - 1, at, at + 1, -api.NoMark} {
				want := trueClosed(v, start, mark)
				if want {
					closed++
				} else {
					open++
				}
				if pane.Closed(v, start, mark) != want {
					t.Errorf("Closed(%+v, %d, %d): want %v", v, start, mark, want)
				}
			}
		}
	}
	if closed < 100 || open < 100 {
		t.Errorf("%d closed, %d open: this tests too little", closed, open)
	}
}

// P404: example 1, and the marks around it.
func TestOpenExamples(t *testing.T) {
	two := api.View{Size: 10, Slide: 5}
	wantOpen(t, two, 12, api.NoMark, 5, 10)
	wantOpen(t, two, 12, 14, 5, 10)
	wantOpen(t, two, 12, 15, 10)
	wantOpen(t, two, 12, 19, 10)
	wantOpen(t, two, 12, 20)
	wantOpen(t, two, 12, -api.NoMark)
	late := api.View{Size: 10, Slide: 5, Late: 7}
	wantOpen(t, late, 12, 21, 5, 10)
	wantOpen(t, late, 12, 22, 10)
	wantOpen(t, late, 12, 27)
	wantOpen(t, api.View{Size: 3, Slide: 10}, 3, api.NoMark)
}

// P404: of any, those of the true windows that are not closed.
func TestOpenOfAny(t *testing.T) {
	some := 0
	ask := func(v api.View, time, mark int64) {
		all := trueStarts(v, time)
		want := slices.DeleteFunc(slices.Clone(all), func(s int64) bool { return trueClosed(v, s, mark) })
		if len(want) > 0 && len(want) < len(all) {
			some++
		}
		wantOpen(t, v, time, mark, want...)
	}
	r := rand.New(rand.NewPCG(4, 4))
	for _, v := range wideViews() {
		for _, time := range edgeTimes(v) {
			ask(v, time, api.NoMark)
			ask(v, time, -api.NoMark)
			for range 20 {
				ask(v, time, time+v.Late+r.Int64N(v.Size+2))
			}
		}
	}
	for range 10000 {
		v, time := anyView(r), anyTime(r)
		ask(v, time, anyMark(r))
		ask(v, time, time+v.Late+r.Int64N(v.Size+2))
	}
	if some < 5000 {
		t.Errorf("only %d with some open, some closed: this tests too little", some)
	}
}

// P405: examples 1 and 4.
func TestFirstExamples(t *testing.T) {
	two := api.View{Size: 10, Slide: 5}
	late := api.View{Size: 10, Slide: 10, Late: 7}
	for _, c := range []struct {
		v          api.View
		mark, want int64
	}{
		{two, 15, 10}, {two, 14, 5}, {two, 0, -5}, {two, -1, -10},
		{late, api.NoMark, -4611686018427387920}, {late, 16, 0}, {late, 17, 10}, {late, -4, -20}, {late, -3, -10},
		// The gap behind a window that is closed: the next one begins behind the mark.
		{api.View{Size: 3, Slide: 10}, 3, 10}, {api.View{Size: 3, Slide: 10}, 2, 0}, {api.View{Size: 3, Slide: 10}, -7, 0}, {api.View{Size: 3, Slide: 10}, -8, -10},
	} {
		if s := pane.First(c.v, c.mark); s != c.want {
			t.Errorf("First(%+v, %d): %d; want %d", c.v, c.mark, s, c.want)
		}
	}
}

// wantFirst asks that it is a multiple of Slide, open, and the one ahead of it closed: no window ahead of a closed one is open.
func wantFirst(t *testing.T, v api.View, mark int64) {
	t.Helper()
	s := pane.First(v, mark)
	if !isMultiple(v, s) || trueClosed(v, s, mark) || !trueClosed(v, s-v.Slide, mark) {
		t.Errorf("First(%+v, %d): %d", v, mark, s)
	}
}

// P405: of any views and marks, their bounds among them.
func TestFirstOfAny(t *testing.T) {
	for _, v := range smallViews() {
		for mark := int64(-90); mark <= 90; mark++ {
			wantFirst(t, v, mark)
		}
		wantFirst(t, v, api.NoMark)
		wantFirst(t, v, -api.NoMark)
	}
	for _, v := range wideViews() {
		for _, mark := range edgeMarks(v) {
			wantFirst(t, v, mark)
		}
	}
	r := rand.New(rand.NewPCG(5, 5))
	for range 20000 {
		wantFirst(t, anyView(r), anyMark(r))
	}
}
