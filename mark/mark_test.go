package mark_test

import (
	"math"
	"math/rand/v2"
	"testing"

	"spate/api"
	"spate/mark"
)

// P1301: marks of just so many sources, each without a mark.
func TestNew(t *testing.T) {
	for sources := 1; sources <= 8; sources++ {
		x := newBoth(t, sources)
		x.same()
		if x.m.Least() != -1<<62 {
			t.Errorf("Least: %d", x.m.Least())
		}
		for source := range sources {
			if x.m.Of(source) != -1<<62 {
				t.Errorf("Of(%d): %d", source, x.m.Of(source))
			}
			wantNoRise(t, x.m, sources+source, 0, api.ErrArg)
		}
		for source := range sources {
			if rose, _ := x.rise(source, 0); rose != (source == sources-1) {
				t.Errorf("of %d sources %d rose: %v", sources, source, rose)
			}
		}
	}
}

// P1301, P4: wrong numbers of sources; example 3's among them.
func TestNewErrors(t *testing.T) {
	for _, sources := range []int{0, 9, -1, 10, 16, -8, 1 << 32, 1<<32 + 1, math.MinInt, math.MaxInt} {
		if m, errno := mark.New(sources); m != nil || errno != api.ErrArg {
			t.Errorf("New(%d): %v, %v", sources, m, errno)
		}
	}
}

// P1302, P1303: example 1.
func TestExampleOfMarks(t *testing.T) {
	m := newMarks(t, 2)
	wantRise(t, m, 0, 5, false, api.NoMark)
	wantRise(t, m, 1, 3, true, 3)
	wantRise(t, m, 0, 9, false, 3)
	wantRise(t, m, 1, 2, false, 3)
	wantRise(t, m, 1, 7, true, 7)
	wantMarks(t, m, 9, 7)
}

// P1302: example 3, and what is wrong besides; ErrArg is ahead of ErrTime. P4: nothing is changed.
func TestRiseErrors(t *testing.T) {
	m := newMarks(t, 2)
	for range 2 {
		for _, source := range []int{2, 3, 8, -1, -2, 1 << 32, math.MinInt, math.MaxInt} {
			for _, time := range append(wrongTimes(), 1, 0, 1<<60, -1<<60) {
				wantNoRise(t, m, source, time, api.ErrArg)
			}
		}
		for source := range 2 {
			for _, time := range wrongTimes() {
				wantNoRise(t, m, source, time, api.ErrTime)
			}
		}
		wantMarks(t, m, api.NoMark, m.Of(1))
		m.Rise(1, 4)
	}
	wantMarks(t, m, api.NoMark, 4)
	wantRise(t, m, 0, 3, true, 3)
}

// P1302: the least and the greatest time are marks; the least one is above none.
func TestRiseToTheBounds(t *testing.T) {
	m := newMarks(t, 2)
	wantRise(t, m, 0, -1<<60, false, api.NoMark)
	wantRise(t, m, 1, -1<<60, true, -1<<60)
	wantRise(t, m, 1, -1<<60+1, false, -1<<60)
	wantRise(t, m, 1, -1<<60, false, -1<<60)
	wantRise(t, m, 0, 1<<60, true, -1<<60+1)
	wantRise(t, m, 1, 1<<60, true, 1<<60)
	wantRise(t, m, 0, 1<<60, false, 1<<60)
	wantRise(t, m, 0, 1<<60-1, false, 1<<60)
	wantMarks(t, m, 1<<60, 1<<60)
}

// P1302: what is not above a source's mark changes nothing, though it be above another's.
func TestNotAbove(t *testing.T) {
	m := newMarks(t, 3)
	wantRise(t, m, 0, 10, false, api.NoMark)
	wantRise(t, m, 1, 0, false, api.NoMark)
	wantRise(t, m, 2, 5, true, 0)
	wantRise(t, m, 0, 9, false, 0)
	wantRise(t, m, 0, 10, false, 0)
	wantRise(t, m, 1, 0, false, 0)
	wantRise(t, m, 1, -1, false, 0)
	wantMarks(t, m, 10, 0, 5)
	wantRise(t, m, 1, 20, true, 5)
	wantMarks(t, m, 10, 20, 5)
}

// P1302: where two have the least mark, it rises with the second of them alone.
func TestTwoAreLeast(t *testing.T) {
	m := newMarks(t, 3)
	wantRise(t, m, 0, 4, false, api.NoMark)
	wantRise(t, m, 1, 8, false, api.NoMark)
	wantRise(t, m, 2, 4, true, 4)
	wantRise(t, m, 0, 6, false, 4)
	wantRise(t, m, 2, 5, true, 5)
	wantRise(t, m, 2, 6, true, 6)
	wantRise(t, m, 2, 7, false, 6)
	wantMarks(t, m, 6, 8, 7)
}

// P1303: as long as one told none, whichever, Least is NoMark.
func TestOneToldNone(t *testing.T) {
	for sources := 2; sources <= 8; sources++ {
		for silent := range sources {
			x := newBoth(t, sources)
			for _, time := range []int64{-7, 0, 1 << 60} {
				for source := range sources {
					if source == silent {
						continue
					}
					if rose, _ := x.rise(source, time); rose || x.m.Least() != api.NoMark {
						t.Errorf("%d of %d told none: Least %d", silent, sources, x.m.Least())
					}
				}
			}
			if rose, _ := x.rise(silent, -3); !rose || x.m.Least() != -3 {
				t.Errorf("%d of %d told: Least %d", silent, sources, x.m.Least())
			}
		}
	}
}

// P1303: of sources that are not, whatever the others told.
func TestOfNone(t *testing.T) {
	m := newMarks(t, 8)
	for source := range 8 {
		m.Rise(source, int64(source))
	}
	for _, source := range []int{-1, -2, 8, 9, 16, 1 << 32, -1 << 32, math.MinInt, math.MaxInt} {
		if got := m.Of(source); got != -1<<62 {
			t.Errorf("Of(%d): %d", source, got)
		}
	}
}

// P1302, P1303: whatever is told, by chance, the marks are those of their plain likeness.
func TestAnyMarks(t *testing.T) {
	r := rand.New(rand.NewPCG(1, 1))
	rises, stays := 0, 0
	for range 600 {
		x := newBoth(t, 1+r.IntN(8))
		for range 60 {
			source, time := r.IntN(len(x.p.told)), near(r, x.m.Least(), 10)
			switch r.IntN(60) {
			case 0:
				source, time = r.IntN(20)-10, anyTime(r)
			case 1:
				time = wrongTimes()[r.IntN(len(wrongTimes()))]
			case 2:
				time = r.Int64N(100)
			}
			if rose, _ := x.rise(source, time); rose {
				rises++
			} else {
				stays++
			}
		}
	}
	if rises < 2000 || stays < 2000 {
		t.Errorf("%d rises, %d others: this tests too little", rises, stays)
	}
}
