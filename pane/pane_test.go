package pane_test

import (
	"math/rand/v2"
	"testing"

	"spate/api"
	"spate/pane"
)

// P401: views that are right, their bounds among them.
func TestCheckRight(t *testing.T) {
	r := rand.New(rand.NewPCG(1, 1))
	all := append(smallViews(), wideViews()...)
	for range 1000 {
		all = append(all, anyView(r))
	}
	for _, v := range all {
		if errno := pane.Check(v); errno != api.OK {
			t.Errorf("Check(%+v): %v", v, errno)
		}
	}
}

// P401: views that are not; example 5's ahead.
func TestCheckWrong(t *testing.T) {
	examples := []api.View{{Size: 65, Slide: 1}, {Size: 0, Slide: 1}, {Size: 1, Slide: 1, Late: -1}, {Size: 1, Slide: 1<<40 + 1}}
	for _, v := range append(examples, wrongViews()...) {
		if errno := pane.Check(v); errno != api.ErrView {
			t.Errorf("Check(%+v): %v", v, errno)
		}
	}
}

// P401: of any numbers, field by field as the promise says it.
func TestCheckOfAny(t *testing.T) {
	right := 0
	for _, size := range wild() {
		for _, slide := range wild() {
			for _, late := range wild() {
				v := api.View{Size: size, Slide: slide, Late: late}
				want := api.ErrView
				if 1 <= size && size <= 1<<40 && 1 <= slide && slide <= 1<<40 && 0 <= late && late <= 1<<40 && (size-1)/64 < slide {
					want = api.OK
					right++
				}
				if errno := pane.Check(v); errno != want {
					t.Errorf("Check(%+v): %v; want %v", v, errno, want)
				}
			}
		}
	}
	if right < 50 {
		t.Errorf("only %d are right: this tests too little", right)
	}
}

// P402: examples 1 to 3.
func TestStartsExamples(t *testing.T) {
	two := api.View{Size: 10, Slide: 5}
	wantStarts(t, two, 12, 5, 10)
	wantStarts(t, two, -1, -10, -5)
	wantStarts(t, two, 0, -5, 0)
	gaps := api.View{Size: 3, Slide: 10}
	wantStarts(t, gaps, 2, 0)
	wantStarts(t, gaps, 3)
	wantStarts(t, gaps, -8, -10)
	three := api.View{Size: 10, Slide: 3}
	wantStarts(t, three, 9, 0, 3, 6, 9)
	wantStarts(t, three, 10, 3, 6, 9)
}

// P402: at the greatest and the least time, of the widest windows.
func TestStartsFarOut(t *testing.T) {
	whole := api.View{Size: 1 << 40, Slide: 1 << 40}
	wantStarts(t, whole, 1<<60, 1<<60)
	wantStarts(t, whole, 1<<60-1, 1<<60-1<<40)
	wantStarts(t, whole, -1<<60, -1<<60)
	wantStarts(t, whole, -1<<60+1<<40-1, -1<<60)
	// The greatest multiple of 3 at or below 1 << 60 is one below it; the least one at or above -(1 << 60) one above.
	three := api.View{Size: 4, Slide: 3}
	wantStarts(t, three, 1<<60, 1<<60-1)
	wantStarts(t, three, 1<<60-1, 1<<60-4, 1<<60-1)
	wantStarts(t, three, -1<<60, -1<<60-2)
	wantStarts(t, three, -1<<60+1, -1<<60-2, -1<<60+1)
}

// P402: the first error that applies is told (P6), and nothing beside it (P4); example 5.
func TestStartsErrors(t *testing.T) {
	times := []int64{least, -1<<60 - 1, 1<<60 + 1, 1 << 61, 1 << 62, most}
	for _, v := range wrongViews() {
		wantNone(t, v, 0, api.ErrView)
		for _, time := range times {
			wantNone(t, v, time, api.ErrView)
		}
	}
	for _, v := range wideViews() {
		for _, time := range times {
			wantNone(t, v, time, api.ErrTime)
		}
		mustStarts(t, v, 1<<60)
		mustStarts(t, v, -1<<60)
	}
}

// P402: of small views and times, each window asked one by one.
func TestStartsOfSmall(t *testing.T) {
	gaps := 0
	for _, v := range smallViews() {
		for time := int64(-80); time <= 80; time++ {
			var want []int64
			for s := int64(-200); s <= 200; s++ {
				if isMultiple(v, s) && s <= time && time < s+v.Size {
					want = append(want, s)
				}
			}
			if len(want) == 0 {
				gaps++
			}
			wantStarts(t, v, time, want...)
		}
	}
	if gaps < 1000 {
		t.Errorf("only %d times in gaps: this tests too little", gaps)
	}
}

// P402: of any views and times, by numbers of any length.
func TestStartsOfAny(t *testing.T) {
	for _, v := range wideViews() {
		for _, time := range edgeTimes(v) {
			wantStarts(t, v, time, trueStarts(v, time)...)
		}
	}
	r := rand.New(rand.NewPCG(2, 2))
	many := 0
	for range 20000 {
		v, time := anyView(r), anyTime(r)
		want := trueStarts(v, time)
		if len(want) > 1 {
			many++
		}
		wantStarts(t, v, time, want...)
	}
	if many < 5000 {
		t.Errorf("only %d with several windows: this tests too little", many)
	}
}
