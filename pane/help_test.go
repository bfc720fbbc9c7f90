package pane_test

import (
	"math"
	"math/big"
	"math/rand/v2"
	"slices"
	"testing"

	"spate/api"
	"spate/pane"
)

const (
	least = math.MinInt64
	most  = math.MaxInt64
)

// smallViews are all right ones of small numbers: with gaps, without, one window a time, and 64.
func smallViews() []api.View {
	var all []api.View
	for slide := int64(1); slide <= 11; slide++ {
		for _, size := range []int64{1, 2, 3, 4, 5, 7, 9, 10, 11, 12, 20, 22, 33, 63, 64} {
			for _, late := range []int64{0, 1, 7} {
				if size <= 64*slide {
					all = append(all, api.View{Size: size, Slide: slide, Late: late})
				}
			}
		}
	}
	return all
}

// wideViews are right ones at the bounds of their fields, and near them.
func wideViews() []api.View {
	const top = api.MaxSpan
	return []api.View{
		{Size: 1, Slide: 1},
		{Size: 64, Slide: 1, Late: top},
		{Size: 1, Slide: top, Late: top},
		{Size: top, Slide: top, Late: top},
		{Size: top, Slide: top / 64, Late: top},
		{Size: top, Slide: top/64 + 1, Late: 3},
		{Size: top, Slide: top - 1, Late: top - 1},
		{Size: top - 1, Slide: top},
		{Size: top - 7, Slide: top / 3},
		{Size: 640, Slide: 10, Late: 7},
		{Size: 639, Slide: 10},
		{Size: 3, Slide: 10, Late: 1 << 20},
		{Size: 1 << 33, Slide: 1<<30 + 1, Late: 1 << 31},
	}
}

// anyView tells a right one of any lengths by chance.
func anyView(r *rand.Rand) api.View {
	slide := 1 + r.Int64N(api.MaxSpan)>>r.IntN(41)
	size := 1 + r.Int64N(min(64*slide, api.MaxSpan))>>r.IntN(8)
	late := r.Int64N(api.MaxSpan+1) >> r.IntN(41)
	return api.View{Size: size, Slide: slide, Late: late}
}

// wrongViews are some of which one thing, or more, is not right.
func wrongViews() []api.View {
	const top = api.MaxSpan
	all := []api.View{
		{}, {Size: 1}, {Slide: 1}, {Late: 1},
		{Size: 65, Slide: 1}, {Size: 129, Slide: 2}, {Size: 641, Slide: 10},
		{Size: top, Slide: top/64 - 1}, {Size: 64*(top/64-1) + 1, Slide: top/64 - 1},
		// 64 times these Slides wraps, or nearly.
		{Size: 1, Slide: 1 << 57}, {Size: 1, Slide: 1 << 58}, {Size: 1, Slide: -1 << 57},
	}
	for _, bad := range []int64{least, -top, -1, 0, top + 1, most} {
		all = append(all, api.View{Size: bad, Slide: top}, api.View{Size: 1, Slide: bad})
		if bad != 0 {
			all = append(all, api.View{Size: 1, Slide: 1, Late: bad})
		}
		all = append(all, api.View{Size: bad, Slide: bad, Late: bad})
	}
	return all
}

// edgeTimes are those around 0, around the bounds, and around a few windows of the view.
func edgeTimes(v api.View) []int64 {
	at := []int64{0, v.Size, v.Slide, -v.Size, -v.Slide, v.Slide - v.Size, 5 * v.Slide, -5 * v.Slide}
	at = append(at, api.MaxTime, -api.MaxTime, api.MaxTime/v.Slide*v.Slide, -api.MaxTime/v.Slide*v.Slide)
	var all []int64
	for _, n := range at {
		for d := int64(-2); d <= 2; d++ {
			if n+d >= -api.MaxTime && n+d <= api.MaxTime {
				all = append(all, n+d)
			}
		}
	}
	return all
}

// edgeMarks are those around the closing of a few windows, and around the bounds.
func edgeMarks(v api.View) []int64 {
	var all []int64
	for _, n := range append(edgeTimes(v), api.NoMark, -api.NoMark) {
		for _, mark := range []int64{n - 1, n, n + 1, n + v.Late, n + v.Size + v.Late} {
			if mark >= api.NoMark && mark <= -api.NoMark {
				all = append(all, mark)
			}
		}
	}
	return all
}

func anyTime(r *rand.Rand) int64 {
	return (r.Int64N(2*api.MaxTime+1) - api.MaxTime) >> r.IntN(61)
}

func anyMark(r *rand.Rand) int64 {
	if r.IntN(10) == 0 {
		return -api.NoMark
	}
	return int64(r.Uint64()) >> (1 + r.IntN(62))
}

// wild are numbers at which something may wrap, whether they may be or not.
func wild() []int64 {
	all := []int64{least, least + 1, -1 << 62, -1 << 61, -1 << 60, -1 << 40, -64, -1, 0, 1, 2, 64, 65}
	for _, n := range []int64{1 << 40, 1 << 57, 1 << 58, 1 << 60, 1 << 61, 1 << 62} {
		all = append(all, n, n+1)
	}
	return append(all, most-1, most)
}

// trueStarts are W2's windows by numbers of any length, found by stepping from a multiple of Slide that is far enough back.
func trueStarts(v api.View, time int64) []int64 {
	slide, size, at := big.NewInt(v.Slide), big.NewInt(v.Size), big.NewInt(time)
	s := new(big.Int).Sub(at, size)
	// Div is Euclid's: the quotient is cut downwards.
	s.Mul(s.Div(s, slide), slide)
	var all []int64
	for ; s.Cmp(at) <= 0; s.Add(s, slide) {
		if end := new(big.Int).Add(s, size); at.Cmp(end) < 0 {
			all = append(all, s.Int64())
		}
	}
	return all
}

// trueClosed is W2's word by numbers of any length.
func trueClosed(v api.View, start, mark int64) bool {
	end := new(big.Int).Add(big.NewInt(start), big.NewInt(v.Size))
	return end.Add(end, big.NewInt(v.Late)).Cmp(big.NewInt(mark)) <= 0
}

// isMultiple asks whether a window may begin there.
func isMultiple(v api.View, start int64) bool {
	return start%v.Slide == 0
}

// mustStarts tells a right view's windows of a time that may be.
func mustStarts(t *testing.T, v api.View, time int64) []int64 {
	t.Helper()
	l, errno := pane.Starts(v, time)
	if errno != api.OK {
		t.Fatalf("Starts(%+v, %d): %v", v, time, errno)
	}
	return l
}

func mustOpen(t *testing.T, v api.View, time, mark int64) []int64 {
	t.Helper()
	l, errno := pane.Open(v, time, mark)
	if errno != api.OK {
		t.Fatalf("Open(%+v, %d, %d): %v", v, time, mark, errno)
	}
	return l
}

func wantStarts(t *testing.T, v api.View, time int64, want ...int64) {
	t.Helper()
	if l := mustStarts(t, v, time); !slices.Equal(l, want) {
		t.Errorf("Starts(%+v, %d): %v; want %v", v, time, l, want)
	}
}

func wantOpen(t *testing.T, v api.View, time, mark int64, want ...int64) {
	t.Helper()
	if l := mustOpen(t, v, time, mark); !slices.Equal(l, want) {
		t.Errorf("Open(%+v, %d, %d): %v; want %v", v, time, mark, l, want)
	}
}

// wantNone asks for this error, and no list beside it (P4).
func wantNone(t *testing.T, v api.View, time int64, want api.Errno) {
	t.Helper()
	if l, errno := pane.Starts(v, time); errno != want || len(l) != 0 {
		t.Errorf("Starts(%+v, %d): %v, %v; want %v", v, time, l, errno, want)
	}
	for _, mark := range []int64{api.NoMark, 0, -api.NoMark} {
		if l, errno := pane.Open(v, time, mark); errno != want || len(l) != 0 {
			t.Errorf("Open(%+v, %d, %d): %v, %v; want %v", v, time, mark, l, errno, want)
		}
	}
}
