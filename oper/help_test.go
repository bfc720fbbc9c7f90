package oper_test

import (
	"math"
	"math/big"
	"math/rand/v2"
	"slices"
	"strings"
	"testing"

	"spate/api"
	"spate/oper"
)

const (
	least = math.MinInt64
	most  = math.MaxInt64
)

// plain is the likeness of an operator: it keeps all that sources told and a list of cells, and asks the document's words by numbers of any length.
type plain struct {
	views []api.View
	told  [][]int64
	cells []api.Cell
}

func newPlain(views []api.View, sources int) *plain {
	return &plain{slices.Clone(views), make([][]int64, sources), nil}
}

func (p *plain) least() int64 {
	var all []int64
	for _, told := range p.told {
		all = append(all, slices.Max(append([]int64{-1 << 62}, told...)))
	}
	return slices.Min(all)
}

func (p *plain) isClosed(c api.Cell) bool {
	v := p.views[c.View]
	end := new(big.Int).Add(big.NewInt(c.Start), big.NewInt(v.Size))
	return end.Add(end, big.NewInt(v.Late)).Cmp(big.NewInt(p.least())) <= 0
}

// startsOf steps from a multiple of Slide that is far enough back.
func startsOf(v api.View, time int64) []int64 {
	slide, size, at := big.NewInt(v.Slide), big.NewInt(v.Size), big.NewInt(time)
	s := new(big.Int).Sub(at, size)
	// Div is Euclid's: the quotient is cut downwards.
	s.Mul(s.Div(s, slide), slide)
	var all []int64
	for ; s.Cmp(at) <= 0; s.Add(s, slide) {
		if end := new(big.Int).Add(s, size); at.Cmp(end) < 0 {
			all = append(all, s.Int64())
		}
	}
	return all
}

func isKey(key string) bool { return key != "" && len(key) <= 32 }

func isTime(time int64) bool { return -1<<60 <= time && time <= 1<<60 }

// taken is what Take tells.
type taken struct {
	cells []api.Cell
	late  bool
	errno api.Errno
}

func (a taken) same(b taken) bool {
	return slices.Equal(a.cells, b.cells) && a.late == b.late && a.errno == b.errno
}

func (p *plain) take(key string, time int64) taken {
	if !isKey(key) {
		return taken{errno: api.ErrKey}
	}
	if !isTime(time) {
		return taken{errno: api.ErrTime}
	}
	var a taken
	closed := 0
	for n, v := range p.views {
		for _, start := range startsOf(v, time) {
			c := api.Cell{View: n, Key: key, Start: start}
			if p.isClosed(c) {
				closed++
			} else {
				a.cells = append(a.cells, c)
			}
		}
	}
	a.late = closed > 0 && len(a.cells) == 0
	return a
}

func (p *plain) check(c api.Cell) api.Errno {
	if c.View < 0 || c.View >= len(p.views) {
		return api.ErrView
	}
	if !isKey(c.Key) {
		return api.ErrKey
	}
	if c.Start < -1<<61 || c.Start > 1<<61 {
		return api.ErrTime
	}
	if new(big.Int).Mod(big.NewInt(c.Start), big.NewInt(p.views[c.View].Slide)).Sign() != 0 {
		return api.ErrField
	}
	if p.isClosed(c) {
		return api.ErrLate
	}
	return api.OK
}

func (p *plain) wrote(cells []api.Cell) api.Errno {
	for _, c := range cells {
		if errno := p.check(c); errno != api.OK {
			return errno
		}
	}
	for _, c := range cells {
		if !slices.Contains(p.cells, c) {
			p.cells = append(p.cells, c)
		}
	}
	return api.OK
}

func (p *plain) mark(source int, time int64) ([]api.Cell, api.Errno) {
	if source < 0 || source >= len(p.told) {
		return nil, api.ErrArg
	}
	if !isTime(time) {
		return nil, api.ErrTime
	}
	p.told[source] = append(p.told[source], time)
	var gone, left []api.Cell
	for _, c := range p.cells {
		if p.isClosed(c) {
			gone = append(gone, c)
		} else {
			left = append(left, c)
		}
	}
	p.cells = left
	return ordered(gone), api.OK
}

// ordered tells cells in W3's order.
func ordered(cells []api.Cell) []api.Cell {
	all := slices.Clone(cells)
	slices.SortFunc(all, func(a, b api.Cell) int {
		switch {
		case a.View != b.View:
			return a.View - b.View
		case a.Key != b.Key:
			return slices.Compare([]byte(a.Key), []byte(b.Key))
		case a.Start < b.Start:
			return -1
		case a.Start > b.Start:
			return 1
		}
		return 0
	})
	return all
}

func newOper(t *testing.T, sources int, views ...api.View) *oper.Oper {
	t.Helper()
	o, errno := oper.New(views, sources)
	if errno != api.OK || o == nil {
		t.Fatalf("New(%v, %d): %v, %v", views, sources, o, errno)
	}
	return o
}

// both are an operator and its plain likeness; what is called is called of both, and held against each other.
type both struct {
	t *testing.T
	o *oper.Oper
	p *plain
}

func newBoth(t *testing.T, sources int, views ...api.View) both {
	t.Helper()
	return both{t, newOper(t, sources, views...), newPlain(views, sources)}
}

func (x both) same() {
	x.t.Helper()
	if got, want := x.o.Least(), x.p.least(); got != want {
		x.t.Fatalf("Least: %d; want %d", got, want)
	}
	if got, want := x.o.Live(), ordered(x.p.cells); !slices.Equal(got, want) {
		x.t.Fatalf("Live: %v; want %v", got, want)
	}
}

func (x both) take(key string, time int64) taken {
	x.t.Helper()
	got, want := take(x.o, key, time), x.p.take(key, time)
	if !got.same(want) {
		x.t.Fatalf("Take(%q, %d) of %v under %d: %v; want %v", key, time, x.p.views, x.p.least(), got, want)
	}
	x.same()
	return got
}

func (x both) wrote(cells ...api.Cell) api.Errno {
	x.t.Helper()
	got, want := x.o.Wrote(cells), x.p.wrote(cells)
	if got != want {
		x.t.Fatalf("Wrote(%v) of %v under %d: %v; want %v", cells, x.p.views, x.p.least(), got, want)
	}
	x.same()
	return got
}

func (x both) mark(source int, time int64) ([]api.Cell, api.Errno) {
	x.t.Helper()
	got, errno := x.o.Mark(source, time)
	want, why := x.p.mark(source, time)
	if !slices.Equal(got, want) || errno != why {
		x.t.Fatalf("Mark(%d, %d) of %v: %v, %v; want %v, %v", source, time, x.p.views, got, errno, want, why)
	}
	x.same()
	return got, errno
}

func take(o *oper.Oper, key string, time int64) taken {
	cells, late, errno := o.Take(key, time)
	return taken{cells, late, errno}
}

func wantTake(t *testing.T, o *oper.Oper, key string, time int64, late bool, want ...api.Cell) {
	t.Helper()
	if got := take(o, key, time); !got.same(taken{want, late, api.OK}) {
		t.Errorf("Take(%q, %d) under %d: %v; want %v, %v", key, time, o.Least(), got, want, late)
	}
}

// wantNoTake asks for this error, and zero values beside it (P4).
func wantNoTake(t *testing.T, o *oper.Oper, key string, time int64, why api.Errno) {
	t.Helper()
	if got := take(o, key, time); !got.same(taken{errno: why}) {
		t.Errorf("Take(%q, %d): %v; want %v", key, time, got, why)
	}
}

func wantWrote(t *testing.T, o *oper.Oper, want api.Errno, cells ...api.Cell) {
	t.Helper()
	if errno := o.Wrote(cells); errno != want {
		t.Errorf("Wrote(%v) under %d: %v; want %v", cells, o.Least(), errno, want)
	}
}

func wantMark(t *testing.T, o *oper.Oper, source int, time int64, want ...api.Cell) {
	t.Helper()
	if got, errno := o.Mark(source, time); errno != api.OK || !slices.Equal(got, want) {
		t.Errorf("Mark(%d, %d): %v, %v; want %v", source, time, got, errno, want)
	}
}

func wantNoMark(t *testing.T, o *oper.Oper, source int, time int64, why api.Errno) {
	t.Helper()
	if got, errno := o.Mark(source, time); errno != why || len(got) > 0 {
		t.Errorf("Mark(%d, %d): %v, %v; want %v", source, time, got, errno, why)
	}
}

// wantState holds Least and Live against what is asked.
func wantState(t *testing.T, o *oper.Oper, least int64, live ...api.Cell) {
	t.Helper()
	if o.Least() != least || !slices.Equal(o.Live(), live) {
		t.Errorf("Least %d, Live %v; want %d, %v", o.Least(), o.Live(), least, live)
	}
}

func cell(view int, key string, start int64) api.Cell {
	return api.Cell{View: view, Key: key, Start: start}
}

// exampleViews are the chapter's.
func exampleViews() []api.View {
	return []api.View{{Size: 10, Slide: 10}, {Size: 10, Slide: 5, Late: 3}}
}

// wideViews are right ones at the bounds of their fields, and near them.
func wideViews() []api.View {
	const top = api.MaxSpan
	return []api.View{
		{Size: 1, Slide: 1},
		{Size: 64, Slide: 1, Late: top},
		{Size: 1, Slide: top, Late: top},
		{Size: top, Slide: top, Late: top},
		{Size: top, Slide: top / 64, Late: top},
		{Size: top - 1, Slide: top},
		{Size: top - 7, Slide: top / 3, Late: 1},
		{Size: 640, Slide: 10, Late: 7},
		{Size: 3, Slide: 10, Late: 1 << 20},
	}
}

// wrongViews are some of which one thing, or more, is not right.
func wrongViews() []api.View {
	const top = api.MaxSpan
	all := []api.View{{}, {Size: 1}, {Slide: 1}, {Late: 1}, {Size: 65, Slide: 1}, {Size: 641, Slide: 10}, {Size: 1, Slide: 1 << 58}}
	for _, bad := range []int64{least, -1, top + 1, most} {
		all = append(all, api.View{Size: bad, Slide: top}, api.View{Size: 1, Slide: bad}, api.View{Size: 1, Slide: 1, Late: bad}, api.View{Size: bad, Slide: bad, Late: bad})
	}
	return all
}

// wrongTimes are none.
func wrongTimes() []int64 {
	return []int64{least, least + 1, api.NoMark - 1, api.NoMark, -1 << 61, -api.MaxTime - 1, api.MaxTime + 1, 1 << 61, 1 << 62, most - 1, most}
}

// rightKeys are at the bounds, and of bytes of all kinds; in their order.
func rightKeys() []string {
	return []string{"\x00", "\x00\x00", "\x00\x01", "a", "a\x00", "a\x00b", "ab", "b", strings.Repeat("k", 31), strings.Repeat("k", 32), "\x80", "\xc3\xa9", strings.Repeat("\xff", 32)}
}

func wrongKeys() []string {
	return []string{"", strings.Repeat("k", 33), strings.Repeat("\x00", 33), strings.Repeat("k", 64), strings.Repeat("k", 1<<16)}
}

// anyView tells a right one by chance: mostly a small one, with gaps or without.
func anyView(r *rand.Rand) api.View {
	if r.IntN(4) > 0 {
		slide := 1 + r.Int64N(12)
		return api.View{Size: 1 + r.Int64N(min(3*slide, 30)), Slide: slide, Late: r.Int64N(3) * r.Int64N(8)}
	}
	slide := 1 + r.Int64N(api.MaxSpan)>>r.IntN(41)
	size := 1 + r.Int64N(min(64*slide, api.MaxSpan))>>r.IntN(8)
	return api.View{Size: size, Slide: slide, Late: r.Int64N(api.MaxSpan+1) >> r.IntN(41)}
}

func anyViews(r *rand.Rand) []api.View {
	views := make([]api.View, 1+r.IntN(api.MaxViews))
	for i := range views {
		views[i] = anyView(r)
	}
	return views
}

// smallViews are some of which a few steps of time close windows.
func smallViews(r *rand.Rand) []api.View {
	views := make([]api.View, 1+r.IntN(api.MaxViews))
	for i := range views {
		slide := 1 + r.Int64N(6)
		views[i] = api.View{Size: 1 + r.Int64N(3*slide), Slide: slide, Late: r.Int64N(5)}
	}
	return views
}

func anyKey(r *rand.Rand) string {
	keys := rightKeys()
	return keys[r.IntN(len(keys))]
}

func anyTime(r *rand.Rand) int64 {
	return (r.Int64N(2*api.MaxTime+1) - api.MaxTime) >> r.IntN(61)
}

// near tells a time at most so far from another that is one by itself.
func near(r *rand.Rand, time, far int64) int64 {
	time += r.Int64N(2*far+1) - far
	return min(max(time, -api.MaxTime), api.MaxTime)
}
