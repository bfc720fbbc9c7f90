package mark_test

import (
	"math"
	"math/big"
	"math/rand/v2"
	"slices"
	"testing"

	"spate/api"
	"spate/mark"
)

const (
	least = math.MinInt64
	most  = math.MaxInt64
)

// plain is the likeness of marks: it keeps all that sources told, and asks W2's words by numbers of any length.
type plain struct {
	told [][]int64
}

func newPlain(sources int) *plain {
	return &plain{make([][]int64, sources)}
}

func (p *plain) of(source int) int64 {
	if source < 0 || source >= len(p.told) || len(p.told[source]) == 0 {
		return api.NoMark
	}
	return slices.Max(p.told[source])
}

func (p *plain) least() int64 {
	var all []int64
	for source := range p.told {
		all = append(all, p.of(source))
	}
	slices.Sort(all)
	return all[0]
}

func (p *plain) rise(source int, time int64) (bool, api.Errno) {
	if source < 0 || source >= len(p.told) {
		return false, api.ErrArg
	}
	if time < -1<<60 || time > 1<<60 {
		return false, api.ErrTime
	}
	before := p.least()
	p.told[source] = append(p.told[source], time)
	return p.least() != before, api.OK
}

// isRight asks P401's words.
func isRight(v api.View) bool {
	in := func(n, from int64) bool { return n >= from && n <= 1<<40 }
	most := new(big.Int).Mul(big.NewInt(64), big.NewInt(v.Slide))
	return in(v.Size, 1) && in(v.Slide, 1) && in(v.Late, 0) && big.NewInt(v.Size).Cmp(most) <= 0
}

// startsOf steps from a multiple of Slide that is far enough back.
func startsOf(v api.View, time int64) []int64 {
	slide, size, at := big.NewInt(v.Slide), big.NewInt(v.Size), big.NewInt(time)
	s := new(big.Int).Sub(at, size)
	// Div is Euclid's: the quotient is cut downwards.
	s.Mul(s.Div(s, slide), slide)
	var all []int64
	for ; s.Cmp(at) <= 0; s.Add(s, slide) {
		if end := new(big.Int).Add(s, size); at.Cmp(end) < 0 {
			all = append(all, s.Int64())
		}
	}
	return all
}

func isClosed(v api.View, start, mark int64) bool {
	end := new(big.Int).Add(big.NewInt(start), big.NewInt(v.Size))
	return end.Add(end, big.NewInt(v.Late)).Cmp(big.NewInt(mark)) <= 0
}

// answer is what Open tells.
type answer struct {
	cells []api.Cell
	late  bool
	errno api.Errno
}

func (a answer) same(b answer) bool {
	return slices.Equal(a.cells, b.cells) && a.late == b.late && a.errno == b.errno
}

func (p *plain) open(time int64, views []api.View) answer {
	if len(views) > 4 {
		return answer{errno: api.ErrMany}
	}
	if !slices.Equal(views, slices.DeleteFunc(slices.Clone(views), func(v api.View) bool { return !isRight(v) })) {
		return answer{errno: api.ErrView}
	}
	if time < -1<<60 || time > 1<<60 {
		return answer{errno: api.ErrTime}
	}
	var a answer
	closed := 0
	for n, v := range views {
		for _, start := range startsOf(v, time) {
			if isClosed(v, start, p.least()) {
				closed++
			} else {
				a.cells = append(a.cells, api.Cell{View: n, Start: start})
			}
		}
	}
	a.late = closed > 0 && len(a.cells) == 0
	return a
}

func newMarks(t *testing.T, sources int) *mark.Marks {
	t.Helper()
	m, errno := mark.New(sources)
	if errno != api.OK || m == nil {
		t.Fatalf("New(%d): %v, %v", sources, m, errno)
	}
	return m
}

// both are marks and their plain likeness; what is called is called of both, and held against each other.
type both struct {
	t *testing.T
	m *mark.Marks
	p *plain
}

func newBoth(t *testing.T, sources int) both {
	t.Helper()
	return both{t, newMarks(t, sources), newPlain(sources)}
}

func (x both) rise(source int, time int64) (bool, api.Errno) {
	x.t.Helper()
	rose, errno := x.m.Rise(source, time)
	wantRose, want := x.p.rise(source, time)
	if rose != wantRose || errno != want {
		x.t.Fatalf("Rise(%d, %d): %v, %v; want %v, %v", source, time, rose, errno, wantRose, want)
	}
	x.same()
	return rose, errno
}

// same looks at all marks; also of sources that are not.
func (x both) same() {
	x.t.Helper()
	if got, want := x.m.Least(), x.p.least(); got != want {
		x.t.Fatalf("Least: %d; want %d", got, want)
	}
	for _, source := range []int{math.MinInt, -1 << 32, -1, 0, 1, 2, 3, 4, 5, 6, 7, 8, 9, 1 << 32, 1<<32 + 1, math.MaxInt} {
		if got, want := x.m.Of(source), x.p.of(source); got != want {
			x.t.Fatalf("Of(%d): %d; want %d", source, got, want)
		}
	}
}

func (x both) open(time int64, views ...api.View) answer {
	x.t.Helper()
	got, want := open(x.m, time, views...), x.p.open(time, views)
	if !got.same(want) {
		x.t.Fatalf("Open(%d, %v) under %d: %v; want %v", time, views, x.m.Least(), got, want)
	}
	return got
}

func open(m *mark.Marks, time int64, views ...api.View) answer {
	cells, late, errno := m.Open(time, views...)
	return answer{cells, late, errno}
}

// under are marks of a lone source that told this one.
func under(t *testing.T, time int64) *mark.Marks {
	t.Helper()
	m := newMarks(t, 1)
	if _, errno := m.Rise(0, time); errno != api.OK {
		t.Fatalf("Rise(0, %d): %v", time, errno)
	}
	return m
}

func wantRise(t *testing.T, m *mark.Marks, source int, time int64, want bool, least int64) {
	t.Helper()
	rose, errno := m.Rise(source, time)
	if rose != want || errno != api.OK || m.Least() != least {
		t.Errorf("Rise(%d, %d): %v, %v, then Least %d; want %v, %d", source, time, rose, errno, m.Least(), want, least)
	}
}

func wantNoRise(t *testing.T, m *mark.Marks, source int, time int64, why api.Errno) {
	t.Helper()
	if rose, errno := m.Rise(source, time); rose || errno != why {
		t.Errorf("Rise(%d, %d): %v, %v; want %v", source, time, rose, errno, why)
	}
}

// wantMarks holds Of and Least against what is asked.
func wantMarks(t *testing.T, m *mark.Marks, want ...int64) {
	t.Helper()
	for source, time := range want {
		if got := m.Of(source); got != time {
			t.Errorf("Of(%d): %d; want %d", source, got, time)
		}
	}
	if got := m.Least(); got != slices.Min(want) {
		t.Errorf("Least: %d; want %d", got, slices.Min(want))
	}
}

func wantOpen(t *testing.T, m *mark.Marks, views []api.View, time int64, late bool, want ...api.Cell) {
	t.Helper()
	if got := open(m, time, views...); !got.same(answer{want, late, api.OK}) {
		t.Errorf("Open(%d, %v) under %d: %v; want %v, %v", time, views, m.Least(), got, want, late)
	}
}

// wantNone asks for this error, and zero values beside it (P4).
func wantNone(t *testing.T, m *mark.Marks, views []api.View, time int64, why api.Errno) {
	t.Helper()
	if got := open(m, time, views...); !got.same(answer{errno: why}) {
		t.Errorf("Open(%d, %v): %v; want %v", time, views, got, why)
	}
}

func at(view int, start int64) api.Cell { return api.Cell{View: view, Start: start} }

// wideViews are right ones at the bounds of their fields, and near them.
func wideViews() []api.View {
	const top = api.MaxSpan
	return []api.View{
		{Size: 1, Slide: 1},
		{Size: 64, Slide: 1, Late: top},
		{Size: 1, Slide: top, Late: top},
		{Size: top, Slide: top, Late: top},
		{Size: top, Slide: top / 64, Late: top},
		{Size: top - 1, Slide: top},
		{Size: top - 7, Slide: top / 3, Late: 1},
		{Size: 640, Slide: 10, Late: 7},
		{Size: 3, Slide: 10, Late: 1 << 20},
	}
}

// wrongViews are some of which one thing, or more, is not right.
func wrongViews() []api.View {
	const top = api.MaxSpan
	all := []api.View{{}, {Size: 1}, {Slide: 1}, {Late: 1}, {Size: 65, Slide: 1}, {Size: 641, Slide: 10}, {Size: 1, Slide: 1 << 58}}
	for _, bad := range []int64{least, -1, top + 1, most} {
		all = append(all, api.View{Size: bad, Slide: top}, api.View{Size: 1, Slide: bad}, api.View{Size: 1, Slide: 1, Late: bad}, api.View{Size: bad, Slide: bad, Late: bad})
	}
	return all
}

// wrongTimes are none.
func wrongTimes() []int64 {
	return []int64{least, least + 1, api.NoMark - 1, api.NoMark, -1 << 61, -api.MaxTime - 1, api.MaxTime + 1, 1 << 61, 1 << 62, most - 1, most}
}

// anyView tells a right one by chance: mostly a small one, with gaps or without.
func anyView(r *rand.Rand) api.View {
	if r.IntN(4) > 0 {
		slide := 1 + r.Int64N(12)
		return api.View{Size: 1 + r.Int64N(min(3*slide, 30)), Slide: slide, Late: r.Int64N(3) * r.Int64N(8)}
	}
	slide := 1 + r.Int64N(api.MaxSpan)>>r.IntN(41)
	size := 1 + r.Int64N(min(64*slide, api.MaxSpan))>>r.IntN(8)
	return api.View{Size: size, Slide: slide, Late: r.Int64N(api.MaxSpan+1) >> r.IntN(41)}
}

func anyViews(r *rand.Rand) []api.View {
	views := make([]api.View, r.IntN(api.MaxViews+1))
	for i := range views {
		views[i] = anyView(r)
	}
	return views
}

func anyTime(r *rand.Rand) int64 {
	return (r.Int64N(2*api.MaxTime+1) - api.MaxTime) >> r.IntN(61)
}

// near tells a time at most so far from another that is one by itself.
func near(r *rand.Rand, time, far int64) int64 {
	time += r.Int64N(2*far+1) - far
	return min(max(time, -api.MaxTime), api.MaxTime)
}
