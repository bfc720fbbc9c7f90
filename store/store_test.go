package store_test

import (
	"math"
	"math/rand/v2"
	"slices"
	"strings"
	"testing"

	"spate/api"
	"spate/store"
)

// P1001: how many shards and slots there may be (example 3), and that a store has no cells at first.
func TestNew(t *testing.T) {
	for _, shards := range []int{math.MinInt, -1, 0, 17, 1 << 32, math.MaxInt} {
		wantNone(t, shards, 9)
		wantNone(t, shards, 1)
	}
	for _, slots := range []int{math.MinInt, -2, 0, 1, 1<<20 + 1, math.MaxInt} {
		wantNone(t, 1, slots)
		wantNone(t, 16, slots)
	}
	for shards := 1; shards <= 16; shards++ {
		for _, slots := range []int{2, 9, 1 << 20} {
			b := newBoth(t, shards, slots)
			b.same(2, a, api.Cell{})
			for n := range shards {
				b.prune(n, 1, 2)
			}
			wantCounts(t, b.s, 0, 0)
		}
	}
}

func wantNone(t *testing.T, shards, slots int) {
	t.Helper()
	if s, errno := store.New(shards, slots); s != nil || errno != api.ErrArg {
		t.Errorf("New(%d, %d): %v, %v", shards, slots, s, errno)
	}
}

// P1001: each shard has so many slots of its own.
func TestEachShardHasSlots(t *testing.T) {
	for shards := 1; shards <= 16; shards++ {
		b := newBoth(t, shards, 4)
		for _, at := range someCells() {
			b.put(1, row(at, x))
		}
		for n := range shards {
			wantUnits(t, b.s, n, 4)
		}
		wantCounts(t, b.s, 2*shards, 1)
	}
}

// P1001: example 1, and the shard of any text.
func TestRoute(t *testing.T) {
	s := newStore(t, 2, 9)
	if s.Route("a") != 0 || s.Route("b") != 1 {
		t.Errorf("Route: %d, %d", s.Route("a"), s.Route("b"))
	}
	texts := append(someKeys(), "", strings.Repeat("k", 33), string(make([]byte, 1<<16)), "two words", "\xc3")
	for shards := 1; shards <= 16; shards++ {
		b := newBoth(t, shards, 9)
		met := map[int]int{}
		for _, text := range texts {
			n := b.s.Route(text)
			if want := b.p.route(text); n != want {
				t.Errorf("Route(%.40q) of %d: %d; want %d", text, shards, n, want)
			}
			met[n]++
		}
		if len(met) != shards {
			t.Errorf("%d of %d shards were met: this tests too little", len(met), shards)
		}
	}
}

// P1002, P1003: example 2.
func TestExamples(t *testing.T) {
	s := newStore(t, 2, 9)
	wantPut(t, s, 1, row(a, x), api.OK)
	wantPut(t, s, 1, row(b, x), api.OK)
	wantUnits(t, s, 0, 2)
	wantUnits(t, s, 1, 2)
	wantUnits(t, s, 2, 0)
	wantScan(t, s, 0, api.Cell{}, api.Cell{View: 1}, 9, rowsOf(a, b)...)
	wantRange(t, s, 1, 0, api.Cell{}, api.Cell{View: 1}, 9, rowsOf(b)...)
}

// P1002: of each call what the shard of the cell's key tells; its errors, and that one shard alone is full.
func TestCellsOfTheirShards(t *testing.T) {
	s := newStore(t, 2, 4)
	wantPut(t, s, 1, row(a, x), api.OK)
	wantPut(t, s, 2, row(a, y), api.OK)
	wantPut(t, s, 2, row(c, x), api.ErrFull)
	wantPut(t, s, 2, row(b, x), api.OK)
	wantPut(t, s, 1, row(d, y), api.OK)
	wantPut(t, s, 2, row(f, y), api.ErrFull)
	wantPut(t, s, 1, row(a, x), api.ErrOld)
	wantAt(t, s, a, 0, y)
	wantAt(t, s, a, 1, x)
	wantAt(t, s, b, 1, api.Agg{})
	wantAt(t, s, b, 2, x)
	wantAt(t, s, d, 0, y)
	wantAt(t, s, c, 0, api.Agg{})
	wantKill(t, s, 2, c, api.ErrGone)
	wantKill(t, s, 1, a, api.ErrOld)
	wantKill(t, s, 3, b, api.OK)
	wantKill(t, s, 3, b, api.ErrGone)
	wantAt(t, s, b, 0, api.Agg{})
	wantAt(t, s, b, 2, x)
	wantUnits(t, s, 0, 3)
	wantUnits(t, s, 1, 4)
	wantCounts(t, s, 2, 2)
}

// P1002: each error, and which one is told first (P6), be the shard full or not.
func TestErrors(t *testing.T) {
	long := strings.Repeat("k", 33)
	s := newStore(t, 2, 2)
	for range 2 {
		wantPut(t, s, 0, row(api.Cell{View: 4, Key: long, Start: math.MaxInt64}, x), api.ErrView)
		wantKill(t, s, 0, api.Cell{View: -1, Key: long, Start: math.MaxInt64}, api.ErrView)
		wantPut(t, s, 0, row(api.Cell{Key: long, Start: math.MaxInt64}, x), api.ErrKey)
		wantPut(t, s, 1, row(api.Cell{}, x), api.ErrKey)
		wantKill(t, s, 0, api.Cell{Start: math.MaxInt64}, api.ErrKey)
		wantPut(t, s, 0, row(api.Cell{Key: "a", Start: 1<<61 + 1}, x), api.ErrTime)
		wantKill(t, s, 0, api.Cell{Key: "b", Start: -1<<61 - 1}, api.ErrTime)
		for _, epoch := range wrongEpochs() {
			wantPut(t, s, epoch, row(a, x), api.ErrArg)
			wantKill(t, s, epoch, b, api.ErrArg)
		}
		for _, v := range wrongAggs() {
			wantPut(t, s, 1, row(b, v), api.ErrArg)
		}
		for _, c := range wrongCells() {
			wantAt(t, s, c, 0, api.Agg{})
			wantAt(t, s, c, 1, api.Agg{})
		}
		s.Put(1, row(a, x))
		s.Put(1, row(b, x))
	}
	wantPut(t, s, 1, row(c, x), api.ErrFull)
	wantPut(t, s, 1, row(d, x), api.ErrFull)
	wantCounts(t, s, 2, 1)
}

// P1002: Fits holds each shard's cells against that shard's room, all of them together, those that are alike once.
func TestFits(t *testing.T) {
	s := newStore(t, 2, 6)
	s.Put(1, row(a, x))
	s.Put(1, row(b, x))
	s.Put(1, row(d, x))
	wantFits(t, s, 1, nil, true)
	wantFits(t, s, 1, []api.Cell{c, e}, true)
	wantFits(t, s, 1, []api.Cell{f}, true)
	wantFits(t, s, 1, []api.Cell{c, f, e, a, b, d}, true)
	wantFits(t, s, 1, []api.Cell{f, f, c, f, c, e, e}, true)
	wantFits(t, s, 2, []api.Cell{b, d, c, a}, true)
	wantFits(t, s, 2, []api.Cell{b, f}, false)
	wantFits(t, s, 2, []api.Cell{c, e, a}, false)
	late := func(c api.Cell) api.Cell { c.Start = 7; return c }
	wantFits(t, s, 1, []api.Cell{c, e, late(a)}, false)
	wantFits(t, s, 1, []api.Cell{f, late(b)}, false)
	wantFits(t, s, 1, []api.Cell{c, f, late(b), e}, false)
	wantFits(t, s, 1, append(wrongCells(), f, c, e), true)
	wantFits(t, s, 1, append(wrongCells(), f, late(b)), false)
}

// P1003: numbers of no shard.
func TestNoSuchShard(t *testing.T) {
	for shards := 1; shards <= 16; shards++ {
		b := newBoth(t, shards, 600)
		for _, at := range someCells()[:200] {
			b.put(1, row(at, x))
			b.put(2, row(at, y))
		}
		for _, n := range []int{math.MinInt, -16, -1, shards, shards + 1, 17, 1 << 32, math.MaxInt} {
			wantRange(t, b.s, n, 0, lowest, highest, 9)
			wantUnits(t, b.s, n, 0)
			wantPrune(t, b.s, n, nil, 0)
		}
		b.same(2)
		wantCounts(t, b.s, 200, 2)
		gone := 0
		for n := range shards {
			gone += b.prune(n)
		}
		if gone != 200 {
			t.Errorf("%d of 200 versions went", gone)
		}
	}
}

// P1003: the first ones of all shards in the order of cells, so many at most; now and at epochs.
func TestScan(t *testing.T) {
	s := newStore(t, 3, 100)
	cells := []api.Cell{
		{Key: "a", Start: -1}, {Key: "a"}, {Key: "a\x00"}, {Key: "ab"}, {Key: "b", Start: -5}, {Key: "c"}, {Key: "\xff"},
		{View: 1, Key: "\x00"}, {View: 1, Key: "a"}, {View: 3, Key: "a", Start: 1 << 61},
	}
	for _, at := range slices.Backward(cells) {
		wantPut(t, s, 2, row(at, x), api.OK)
	}
	all := rowsOf(cells...)
	for most := range 12 {
		wantScan(t, s, 0, lowest, highest, most, all[:min(most, 10)]...)
	}
	for _, most := range []int{-1, math.MinInt} {
		wantScan(t, s, 0, lowest, highest, most)
		wantRange(t, s, 0, 0, lowest, highest, most)
	}
	wantScan(t, s, 0, lowest, highest, math.MaxInt, all...)
	wantScan(t, s, 0, api.Cell{}, api.Cell{View: 4}, 256, all...)
	for from := range cells {
		for to := range cells {
			wantScan(t, s, 2, cells[from], cells[to], 99, all[from:max(from, to)]...)
			wantScan(t, s, 2, cells[from], cells[to], 2, all[from:max(from, min(to, from+2))]...)
		}
	}
	wantScan(t, s, 1, lowest, highest, 99)
	wantKill(t, s, 3, cells[4], api.OK)
	wantPut(t, s, 3, row(cells[6], y), api.OK)
	wantScan(t, s, 2, lowest, highest, 99, all...)
	wantScan(t, s, 3, cells[3], cells[8], 3, all[3], all[5], row(cells[6], y))
}

// P1003: Cells are counted in all shards, Most is the greatest of theirs.
func TestCounts(t *testing.T) {
	s := newStore(t, 2, 100)
	s.Put(1, row(a, x))
	s.Put(1, row(b, x))
	s.Put(1, row(d, x))
	wantCounts(t, s, 3, 1)
	s.Put(2, row(b, y))
	wantCounts(t, s, 3, 2)
	s.Put(2, row(a, y))
	s.Kill(3, a)
	wantCounts(t, s, 2, 3)
	wantPrune(t, s, 0, nil, 3)
	wantCounts(t, s, 2, 2)
	wantPrune(t, s, 1, []int{1}, 0)
	wantPrune(t, s, 1, nil, 1)
	wantCounts(t, s, 2, 1)
}

// P1001 to P1004: whatever is called, by chance, the store tells what lone shards do.
func TestAnyCalls(t *testing.T) {
	r := rand.New(rand.NewPCG(1, 1))
	told := map[api.Errno]int{}
	went, fit, found := 0, map[bool]int{}, 0
	for i := range 120 {
		cells := fewCells(r, 4+r.IntN(30))
		shards := 1 + r.IntN(16)
		b := newBoth(t, shards, 2+r.IntN(16))
		top := 1
		for range 80 {
			told[b.step(r, top, cells)]++
			if r.IntN(6) == 0 {
				top++
			}
			if r.IntN(6) == 0 {
				went += b.prune(r.IntN(shards), anyHeld(r, top)...)
			}
			if r.IntN(20) == 0 {
				for _, errno := range b.load(1+r.IntN(8), top, anyRows(r, r.IntN(10), cells)) {
					told[errno]++
				}
			}
			fit[b.fits(top, cells[:r.IntN(6)%len(cells)]...)]++
			from, to := cells[r.IntN(len(cells))], cells[r.IntN(len(cells))]
			found += b.rows(r.IntN(top+1), from, to, r.IntN(6))
		}
		if i%4 == 0 {
			b.same(top, cells...)
		}
	}
	for _, errno := range []api.Errno{api.OK, api.ErrView, api.ErrKey, api.ErrTime, api.ErrArg, api.ErrOld, api.ErrGone, api.ErrFull} {
		if told[errno] < 20 {
			t.Errorf("only %d %v: this tests too little", told[errno], errno)
		}
	}
	if went < 300 || fit[true] < 500 || fit[false] < 500 || found < 1000 {
		t.Errorf("%d went, %v fit, %d found: this tests too little", went, fit, found)
	}
}
