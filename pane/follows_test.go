package pane_test

import (
	"math/rand/v2"
	"slices"
	"testing"

	"spate/api"
	"spate/pane"
)

// eachTime calls for small views and times, for wide ones at their edges, and for any by chance.
func eachTime(seed uint64, call func(v api.View, time int64)) {
	for _, v := range smallViews() {
		for time := int64(-30); time <= 30; time++ {
			call(v, time)
		}
	}
	for _, v := range wideViews() {
		for _, time := range edgeTimes(v) {
			call(v, time)
		}
	}
	r := rand.New(rand.NewPCG(seed, seed))
	for range 5000 {
		call(anyView(r), anyTime(r))
	}
}

// P406: how many windows a time has, and how far apart they are.
func TestHowManyWindows(t *testing.T) {
	full, more := 0, 0
	eachTime(6, func(v api.View, time int64) {
		l := mustStarts(t, v, time)
		n, whole := int64(len(l)), v.Size/v.Slide
		if n != whole && n != whole+1 || v.Size%v.Slide == 0 && n != whole || n > api.MaxPanes {
			t.Errorf("Starts(%+v, %d): %d windows", v, time, n)
		}
		if n > whole {
			more++
		}
		if n == api.MaxPanes {
			full++
		}
		for i := 1; i < len(l); i++ {
			if l[i]-l[i-1] != v.Slide {
				t.Errorf("Starts(%+v, %d): %v", v, time, l)
			}
		}
	})
	if full < 50 || more < 1000 {
		t.Errorf("%d with 64, %d with one more: this tests too little", full, more)
	}
}

// P406: a time later by Slide has the same windows, each later by Slide.
func TestLaterBySlide(t *testing.T) {
	eachTime(7, func(v api.View, time int64) {
		if time+v.Slide > api.MaxTime {
			return
		}
		want := mustStarts(t, v, time)
		for i := range want {
			want[i] += v.Slide
		}
		wantStarts(t, v, time+v.Slide, want...)
	})
}

// P407: under a greater mark nothing opens again; Open are those of Starts from First on.
func TestNothingOpensAgain(t *testing.T) {
	r := rand.New(rand.NewPCG(8, 8))
	fewer := 0
	eachTime(8, func(v api.View, time int64) {
		near := time + v.Late + r.Int64N(v.Size+2)
		marks := []int64{api.NoMark, time, near, near + r.Int64N(v.Slide+1), time + v.Size + v.Late, -api.NoMark, anyMark(r)}
		slices.Sort(marks)
		before := mustStarts(t, v, time)
		all := slices.Clone(before)
		for i, mark := range marks {
			now := mustOpen(t, v, time, mark)
			for _, s := range now {
				if !slices.Contains(before, s) {
					t.Errorf("%+v, %d: %d opens again under %d", v, time, s, mark)
				}
			}
			if len(now) < len(before) {
				fewer++
			}
			first := pane.First(v, mark)
			if i > 0 && first < pane.First(v, marks[i-1]) {
				t.Errorf("%+v: First(%d) is below First(%d)", v, mark, marks[i-1])
			}
			from, _ := slices.BinarySearch(all, first)
			if !slices.Equal(now, all[from:]) {
				t.Errorf("Open(%+v, %d, %d): %v; First: %d, Starts: %v", v, time, mark, now, first, all)
			}
			before = now
		}
	})
	if fewer < 5000 {
		t.Errorf("only %d times a window was closed: this tests too little", fewer)
	}
}

// P408: a window has the times from its start to its end, less 1, and no others.
func TestTimesOfAWindow(t *testing.T) {
	for _, v := range smallViews() {
		for n := int64(-3); n <= 3; n++ {
			start := n * v.Slide
			for time := int64(-140); time <= 140; time++ {
				has := slices.Contains(mustStarts(t, v, time), start)
				if has != (start <= time && time <= pane.End(v, start)-1) {
					t.Errorf("%+v: %d has %d: %v", v, start, time, has)
				}
			}
		}
	}
}

// P408: at the borders of wide windows, also of those that begin ahead of the least time or end behind the greatest.
func TestBordersOfAWindow(t *testing.T) {
	asked := 0
	eachTime(9, func(v api.View, time int64) {
		for _, start := range mustStarts(t, v, time) {
			end := pane.End(v, start)
			for at, want := range map[int64]bool{start - 1: false, start: true, end - 1: true, end: false} {
				if at < -api.MaxTime || at > api.MaxTime {
					continue
				}
				asked++
				if slices.Contains(mustStarts(t, v, at), start) != want {
					t.Errorf("%+v: %d has %d: %v", v, start, at, !want)
				}
			}
		}
	})
	if asked < 50000 {
		t.Errorf("only %d asked: this tests too little", asked)
	}
}

// P1: every call ends and none panics, whatever it is given; P4: beside an error stands no list.
func TestWhateverIsGiven(t *testing.T) {
	numbers := wild()
	views := append(wrongViews(), wideViews()...)
	for _, size := range numbers {
		for _, slide := range numbers {
			views = append(views, api.View{Size: size, Slide: slide, Late: numbers[len(views)%len(numbers)]})
		}
	}
	for _, v := range views {
		for _, a := range numbers {
			pane.End(v, a)
			pane.First(v, a)
			if l, errno := pane.Starts(v, a); errno != api.OK && len(l) != 0 {
				t.Errorf("Starts(%+v, %d): %v beside %v", v, a, l, errno)
			}
			for _, b := range numbers {
				pane.Closed(v, a, b)
				if l, errno := pane.Open(v, a, b); errno != api.OK && len(l) != 0 {
					t.Errorf("Open(%+v, %d, %d): %v beside %v", v, a, b, l, errno)
				}
			}
		}
	}
}

// P2: what is answered is new memory, its spare room too.
func TestAnswersAreNew(t *testing.T) {
	v := api.View{Size: 10, Slide: 2}
	want := []int64{4, 6, 8, 10, 12}
	for mark := int64(13); mark <= 22; mark++ {
		for _, l := range [][]int64{mustStarts(t, v, 12), mustOpen(t, v, 12, mark)} {
			l = l[:cap(l)]
			for i := range l {
				l[i] = -7
			}
		}
		wantStarts(t, v, 12, want...)
		wantOpen(t, v, 12, 13, want...)
	}
	a, b := mustOpen(t, v, 12, 17), mustOpen(t, v, 12, 17)
	for i := range b[:cap(b)] {
		b[:cap(b)][i] = -7
	}
	if !slices.Equal(a, want[2:]) {
		t.Errorf("%v; want %v", a, want[2:])
	}
}

// P3: the same calls answer the same, whatever was asked between.
func TestTwiceTheSame(t *testing.T) {
	r := rand.New(rand.NewPCG(10, 10))
	for range 3000 {
		v, time, mark := anyView(r), anyTime(r), anyMark(r)
		starts, open, first := mustStarts(t, v, time), mustOpen(t, v, time, mark), pane.First(v, mark)
		end, closed := pane.End(v, time), pane.Closed(v, time, mark)
		pane.Starts(anyView(r), anyTime(r))
		pane.Open(anyView(r), anyTime(r), anyMark(r))
		pane.First(anyView(r), anyMark(r))
		wantStarts(t, v, time, starts...)
		wantOpen(t, v, time, mark, open...)
		if pane.First(v, mark) != first || pane.End(v, time) != end || pane.Closed(v, time, mark) != closed || pane.Check(v) != api.OK {
			t.Errorf("%+v, %d, %d: not twice the same", v, time, mark)
		}
	}
}
