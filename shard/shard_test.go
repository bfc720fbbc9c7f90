package shard_test

import (
	"fmt"
	"math"
	"math/rand/v2"
	"strings"
	"testing"

	"spate/api"
	"spate/shard"
)

// P701: how many slots there may be, and that a shard has no cells at first.
func TestNew(t *testing.T) {
	for _, slots := range []int{math.MinInt, -2, -1, 0, 1, 1<<20 + 1, 1 << 21, math.MaxInt} {
		if s, errno := shard.New(slots); s != nil || errno != api.ErrArg {
			t.Errorf("New(%d): %v, %v", slots, s, errno)
		}
	}
	for _, slots := range []int{2, 3, 1000, 1<<20 - 1, 1 << 20} {
		b := newBoth(t, slots)
		b.same(someCells()...)
		b.prune()
		b.prune(1, 2)
		b.same(wrongCells()...)
	}
}

// P701, P703: units are never above slots, be they few.
func TestFewSlots(t *testing.T) {
	s := newShard(t, 2)
	wantPut(t, s, 1, a, x, api.OK)
	wantNumbers(t, s, 2, 1, 1)
	wantPut(t, s, 1, b, x, api.ErrFull)
	wantPut(t, s, 2, a, x, api.ErrFull)
	wantPut(t, s, 1, a, y, api.OK)
	wantKill(t, s, 2, a, api.OK)
	wantNumbers(t, s, 2, 0, 2)
	wantPut(t, s, 2, a, x, api.ErrFull)
	wantPrune(t, s, nil, 2)
	wantPut(t, s, 1, b, x, api.OK)
	s = newShard(t, 3)
	wantPut(t, s, 1, a, x, api.OK)
	wantPut(t, s, 1, b, x, api.ErrFull)
	wantPut(t, s, 2, a, x, api.OK)
	wantPut(t, s, 3, a, x, api.ErrFull)
	wantNumbers(t, s, 3, 1, 2)
}

// P701, P703, P704, P707: as many cells as ever have room.
func TestManySlots(t *testing.T) {
	const many = 1 << 19
	s := newShard(t, 2*many)
	cell := func(i int) api.Cell { return api.Cell{View: i % 4, Key: fmt.Sprint(i), Start: int64(i)} }
	for i := range many {
		wantPut(t, s, 1, cell(i), x, api.OK)
	}
	wantNumbers(t, s, 2*many, many, 1)
	wantPut(t, s, 1, cell(many), x, api.ErrFull)
	wantPut(t, s, 2, cell(0), x, api.ErrFull)
	for i := range many {
		wantKill(t, s, 2, cell(i), api.OK)
	}
	wantNumbers(t, s, 2*many, 0, 2)
	wantPrune(t, s, []int{1}, 0)
	wantPrune(t, s, []int{2}, 2*many)
	wantNumbers(t, s, 0, 0, 0)
}

// P702 to P705, P708: examples 1 and 2.
func TestExamples(t *testing.T) {
	s := newShard(t, 6)
	wantPut(t, s, 1, a, x, api.OK)
	wantNumbers(t, s, 2, 1, 1)
	wantNeed(t, s, 1, []api.Cell{a, b}, 2)
	wantNeed(t, s, 2, []api.Cell{a, b, a}, 3)
	wantPut(t, s, 2, a, y, api.OK)
	wantNumbers(t, s, 3, 1, 2)
	wantAt(t, s, a, 1, x)
	wantAt(t, s, a, 0, y)
	wantPut(t, s, 1, a, x, api.ErrOld)

	wantPut(t, s, 2, b, x, api.OK)
	wantNumbers(t, s, 5, 2, 2)
	wantPut(t, s, 2, c, x, api.ErrFull)
	wantFits(t, s, 2, []api.Cell{c}, false)
	wantFits(t, s, 2, []api.Cell{a, b}, true)
	wantKill(t, s, 3, a, api.OK)
	wantNumbers(t, s, 5, 1, 3)
	wantKill(t, s, 3, a, api.ErrGone)
	wantAt(t, s, a, 2, y)
	wantKill(t, s, 2, b, api.OK)
	wantNumbers(t, s, 4, 0, 3)

	// Example 3.
	wantPrune(t, s, []int{1}, 2)
	wantNumbers(t, s, 2, 0, 2)
	wantAt(t, s, a, 1, x)
	wantAt(t, s, a, 3, api.Agg{})
	wantPrune(t, s, nil, 2)
	wantNumbers(t, s, 0, 0, 0)
}

// P702: At is asked of any ints; 0 is now.
func TestAtOfAnyEpochs(t *testing.T) {
	s := newShard(t, 100)
	s.Put(1, api.Row{Cell: a, Agg: x})
	s.Put(1<<40, api.Row{Cell: a, Agg: y})
	for epoch, want := range map[int]api.Agg{0: y, 1: x, 2: x, 1<<40 - 1: x, 1 << 40: y, 1<<40 + 1: y, math.MaxInt: y} {
		wantAt(t, s, a, epoch, want)
	}
	s.Kill(1<<40, a)
	for epoch, want := range map[int]api.Agg{0: {}, 1: x, 1<<40 - 1: x, 1 << 40: {}, 1<<40 + 1: {}, math.MaxInt: {}} {
		wantAt(t, s, a, epoch, want)
	}
	for _, epoch := range []int{-1, -1 << 40, math.MinInt} {
		wantAt(t, s, a, epoch, api.Agg{})
	}
	// Below its first epoch, and behind it, a cell is told apart.
	s.Put(7, api.Row{Cell: b, Agg: x})
	wantAt(t, s, b, 6, api.Agg{})
	wantAt(t, s, b, 7, x)
	wantAt(t, s, b, 8, x)
}

// P702: what may be no cell is none, whatever else is there; each cell is told apart from all others.
func TestCellsApart(t *testing.T) {
	s := newShard(t, 10000)
	for i, at := range someCells() {
		wantAt(t, s, at, 0, api.Agg{})
		wantPut(t, s, 1, at, api.Agg{Count: 1, Sum: int64(i), Min: int64(i), Max: int64(i)}, api.OK)
	}
	for i, at := range someCells() {
		wantAt(t, s, at, 0, api.Agg{Count: 1, Sum: int64(i), Min: int64(i), Max: int64(i)})
	}
	for _, at := range wrongCells() {
		for _, epoch := range []int{0, 1, 2, -1} {
			wantAt(t, s, at, epoch, api.Agg{})
		}
	}
}

// P703: each error, and which one is told first (P6); example 4.
func TestPutErrors(t *testing.T) {
	long, early := strings.Repeat("k", 33), int64(-1<<61-1)
	fails := func(s *shard.Shard) {
		t.Helper()
		for _, view := range []int{-1, 4, 256, math.MinInt, math.MaxInt} {
			wantPut(t, s, 0, api.Cell{View: view, Key: long, Start: early}, api.Agg{}, api.ErrView)
			wantPut(t, s, 1, api.Cell{View: view, Key: "a"}, x, api.ErrView)
		}
		for _, key := range []string{"", long} {
			wantPut(t, s, 0, api.Cell{Key: key, Start: early}, api.Agg{}, api.ErrKey)
			wantPut(t, s, 1, api.Cell{View: 3, Key: key}, x, api.ErrKey)
		}
		for _, start := range []int64{early, 1<<61 + 1, math.MinInt64, math.MaxInt64} {
			wantPut(t, s, 0, api.Cell{Key: "a", Start: start}, api.Agg{}, api.ErrTime)
			wantPut(t, s, 1, api.Cell{Key: "c", Start: start}, x, api.ErrTime)
		}
		for _, epoch := range wrongEpochs() {
			wantPut(t, s, epoch, a, x, api.ErrArg)
			wantPut(t, s, epoch, c, x, api.ErrArg)
		}
		for _, v := range append(wrongAggs(), api.Agg{}) {
			wantPut(t, s, 2, a, v, api.ErrArg)
			wantPut(t, s, 1, a, v, api.ErrArg)
			wantPut(t, s, 2, c, v, api.ErrArg)
		}
	}
	s := newShard(t, 4)
	fails(s)
	wantNumbers(t, s, 0, 0, 0)
	wantPut(t, s, 2, a, x, api.OK)
	wantPut(t, s, 2, b, x, api.OK)
	// The shard is full: that is told last.
	fails(s)
	wantPut(t, s, 1, a, y, api.ErrOld)
	wantPut(t, s, 1, c, y, api.ErrFull)
	wantPut(t, s, 3, a, y, api.ErrFull)
	wantKill(t, s, 3, a, api.OK)
	wantPut(t, s, 2, a, y, api.ErrOld)
	wantPut(t, s, 3, a, y, api.ErrFull)
	wantNumbers(t, s, 4, 1, 2)
	wantRows(t, s, 0, lowest, highest, 9, api.Row{Cell: b, Agg: x})
	wantAt(t, s, a, 2, x)
}

// P703: what may be at the bounds is not refused.
func TestPutAtTheBounds(t *testing.T) {
	b := newBoth(t, 1000)
	for _, view := range []int{0, 3} {
		for _, key := range []string{"a", "\x00", strings.Repeat("k", 32)} {
			for _, start := range []int64{-1 << 61, 0, 1 << 61} {
				for _, epoch := range []int{1, 1 << 40} {
					if errno := b.put(epoch, api.Cell{View: view, Key: key, Start: start}, x); errno != api.OK {
						t.Errorf("%d %q %d at %d: %v", view, key, start, epoch, errno)
					}
				}
			}
		}
	}
	for _, v := range []api.Agg{{Count: 1}, {Count: 2}, {Count: 1, Sum: math.MinInt64, Min: math.MinInt64, Max: math.MinInt64}, {Count: math.MaxInt64, Sum: math.MaxInt64, Min: 1, Max: 1}, {Count: 3, Min: -1, Max: 1}} {
		if errno := b.put(1, a, v); errno != api.ErrOld {
			t.Errorf("%v: %v", v, errno)
		}
		if errno := b.put(1<<40, a, v); errno != api.OK {
			t.Errorf("%v: %v", v, errno)
		}
	}
	b.same()
}

// P703: in the newest version's place, or as one more; in a tombstone's place, and behind one.
func TestPutInPlace(t *testing.T) {
	s := newShard(t, 100)
	wantPut(t, s, 3, a, x, api.OK)
	wantPut(t, s, 3, a, y, api.OK)
	wantNumbers(t, s, 2, 1, 1)
	wantAt(t, s, a, 3, y)
	wantPut(t, s, 5, a, x, api.OK)
	wantNumbers(t, s, 3, 1, 2)
	wantKill(t, s, 5, a, api.OK)
	wantNumbers(t, s, 2, 0, 2)
	wantPut(t, s, 5, a, y, api.OK)
	wantNumbers(t, s, 3, 1, 2)
	wantAt(t, s, a, 4, y)
	wantKill(t, s, 6, a, api.OK)
	wantPut(t, s, 7, a, x, api.OK)
	wantNumbers(t, s, 5, 1, 4)
	wantAt(t, s, a, 6, api.Agg{})
	wantAt(t, s, a, 7, x)
}

// P704: each error, and which one is told first (P6).
func TestKillErrors(t *testing.T) {
	long, early := strings.Repeat("k", 33), int64(-1<<61-1)
	s := newShard(t, 100)
	fails := func() {
		t.Helper()
		wantKill(t, s, 0, api.Cell{View: -1, Key: long, Start: early}, api.ErrView)
		wantKill(t, s, 1, api.Cell{View: 4, Key: "a"}, api.ErrView)
		wantKill(t, s, 0, api.Cell{Key: long, Start: early}, api.ErrKey)
		wantKill(t, s, 1, api.Cell{}, api.ErrKey)
		wantKill(t, s, 0, api.Cell{Key: "a", Start: early}, api.ErrTime)
		wantKill(t, s, 1, api.Cell{Key: "a", Start: 1<<61 + 1}, api.ErrTime)
		for _, epoch := range wrongEpochs() {
			wantKill(t, s, epoch, a, api.ErrArg)
			wantKill(t, s, epoch, b, api.ErrArg)
		}
		wantKill(t, s, 1, b, api.ErrGone)
		wantKill(t, s, 1<<40, b, api.ErrGone)
	}
	fails()
	wantNumbers(t, s, 0, 0, 0)
	s.Put(5, api.Row{Cell: a, Agg: x})
	fails()
	wantKill(t, s, 4, a, api.ErrOld)
	wantKill(t, s, 1<<40, a, api.OK)
	fails()
	wantKill(t, s, 5, a, api.ErrOld)
	wantKill(t, s, 1<<40-1, a, api.ErrOld)
	wantKill(t, s, 1<<40, a, api.ErrGone)
	wantNumbers(t, s, 2, 0, 2)
	wantAt(t, s, a, 5, x)
}

// P704: a tombstone never needs a unit more.
func TestKillOfFull(t *testing.T) {
	s := newShard(t, 4)
	wantPut(t, s, 1, a, x, api.OK)
	wantPut(t, s, 1, b, x, api.OK)
	wantKill(t, s, 2, a, api.OK)
	wantNumbers(t, s, 4, 1, 2)
	wantKill(t, s, 1, b, api.OK)
	wantNumbers(t, s, 3, 0, 2)
	// A tombstone alone is a version still.
	wantKill(t, s, 2, b, api.ErrGone)
	wantPut(t, s, 2, b, x, api.ErrFull)
	wantPut(t, s, 1, b, x, api.OK)
}

// P702 to P708: whatever is called, by chance, the shard tells what its plain likeness does.
func TestAnyCalls(t *testing.T) {
	r := rand.New(rand.NewPCG(1, 1))
	told := map[api.Errno]int{}
	went, needed, found := 0, 0, 0
	for i := range 150 {
		cells := fewCells(r, 2+r.IntN(20))
		b := newBoth(t, 2+r.IntN(60))
		top := 1
		for range 120 {
			told[b.step(r, top, cells)]++
			if r.IntN(6) == 0 {
				top++
			}
			if r.IntN(12) == 0 {
				went += b.prune(anyHeld(r, top)...)
			}
			needed += b.need(max(1, top+r.IntN(3)-1), cells[:r.IntN(len(cells))]...)
			from, to := cells[r.IntN(len(cells))], cells[r.IntN(len(cells))]
			found += b.rows(r.IntN(top+1), from, to, r.IntN(6))
		}
		if i%3 == 0 {
			b.same(cells...)
		}
	}
	for _, errno := range []api.Errno{api.OK, api.ErrView, api.ErrKey, api.ErrTime, api.ErrArg, api.ErrOld, api.ErrGone, api.ErrFull} {
		if told[errno] < 30 {
			t.Errorf("only %d %v: this tests too little", told[errno], errno)
		}
	}
	if went < 500 || needed < 1000 || found < 1000 {
		t.Errorf("%d went, %d needed, %d found: this tests too little", went, needed, found)
	}
}
