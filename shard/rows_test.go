package shard_test

import (
	"math"
	"math/rand/v2"
	"slices"
	"testing"

	"spate/api"
)

// P706: all cells by View, Key, Start, in whatever order they came; example 4.
func TestRangeInOrder(t *testing.T) {
	b := newBoth(t, 10000)
	cells := fewCells(rand.New(rand.NewPCG(3, 3)), len(someCells()))
	for _, at := range cells {
		b.put(1, at, x)
	}
	slices.SortFunc(cells, byCell)
	for _, to := range []api.Cell{{View: 4}, highest} {
		rows := b.s.Range(0, api.Cell{}, to, len(cells)+1)
		if len(rows) != len(cells) {
			t.Fatalf("%d rows; want %d", len(rows), len(cells))
		}
		for i, r := range rows {
			if r.Cell != cells[i] || r.Agg != x {
				t.Errorf("%d: %v; want %v", i, r, cells[i])
			}
		}
	}
	for i := range cells[:len(cells)-1] {
		wantRows(t, b.s, 1, cells[i], cells[i+1], 9, api.Row{Cell: cells[i], Agg: x})
	}
}

// P706: from counts, to does not; both are only compared.
func TestRangeBounds(t *testing.T) {
	r := rand.New(rand.NewPCG(4, 4))
	bounds := append(append(wrongCells(), someCells()...), lowest, highest, api.Cell{})
	found := 0
	for range 20 {
		cells := fewCells(r, 40)
		b := anyBoth(t, r, 1000, 3, cells)
		for range 200 {
			from, to := bounds[r.IntN(len(bounds))], bounds[r.IntN(len(bounds))]
			found += b.rows(r.IntN(4), from, to, math.MaxInt)
		}
		for range 200 {
			from, to := cells[r.IntN(len(cells))], cells[r.IntN(len(cells))]
			found += b.rows(r.IntN(4), from, to, 1+r.IntN(20))
			wantRows(t, b.s, 0, from, from, 9)
		}
	}
	if found < 5000 {
		t.Errorf("only %d were found: this tests too little", found)
	}
}

// P706: just behind a cell, and just ahead of one.
func TestRangeJustBehind(t *testing.T) {
	s := newShard(t, 100)
	s.Put(1, api.Row{Cell: a, Agg: x})
	s.Put(1, api.Row{Cell: b, Agg: y})
	one, other := api.Row{Cell: a, Agg: x}, api.Row{Cell: b, Agg: y}
	wantRows(t, s, 0, a, b, 9, one)
	wantRows(t, s, 0, api.Cell{Key: "a", Start: 1}, b, 9)
	wantRows(t, s, 0, api.Cell{Key: "a", Start: -1}, b, 9, one)
	wantRows(t, s, 0, api.Cell{Key: "a\x00"}, api.Cell{Key: "b", Start: 1}, 9, other)
	wantRows(t, s, 0, api.Cell{View: -1, Key: "z"}, api.Cell{Key: "a", Start: 1}, 9, one)
	wantRows(t, s, 0, api.Cell{}, api.Cell{View: 1}, 9, one, other)
	wantRows(t, s, 0, api.Cell{View: 1}, api.Cell{View: 4}, 9)
	wantRows(t, s, 0, b, a, 9)
}

// P706: so many at most, the first ones.
func TestRangeMost(t *testing.T) {
	s := newShard(t, 100)
	var want []api.Row
	for _, key := range []string{"a", "b", "c", "d"} {
		want = append(want, api.Row{Cell: api.Cell{Key: key}, Agg: x})
	}
	for _, r := range want {
		s.Put(1, r)
	}
	for most := range 7 {
		wantRows(t, s, 0, lowest, highest, most, want[:min(most, 4)]...)
	}
	for _, most := range []int{math.MinInt, -2, -1, 0} {
		wantRows(t, s, 0, lowest, highest, most)
	}
	// One that is not there is not one of them.
	s.Kill(2, a)
	wantRows(t, s, 0, lowest, highest, 2, want[1:3]...)
	wantRows(t, s, 2, lowest, highest, 2, want[1:3]...)
	wantRows(t, s, 1, lowest, highest, 2, want[:2]...)
}

// P706: with the aggregates then, at whatever epoch; 0 is now.
func TestRangeAtEpochs(t *testing.T) {
	s := newShard(t, 100)
	s.Put(1, api.Row{Cell: a, Agg: x})
	s.Put(2, api.Row{Cell: b, Agg: x})
	s.Put(3, api.Row{Cell: a, Agg: y})
	s.Kill(4, b)
	s.Kill(6, a)
	s.Put(7, api.Row{Cell: c, Agg: y})
	ask := func(epoch int, want ...api.Row) {
		t.Helper()
		wantRows(t, s, epoch, lowest, highest, 9, want...)
	}
	for _, epoch := range []int{math.MinInt, -7, -1} {
		ask(epoch)
	}
	ask(1, api.Row{Cell: a, Agg: x})
	ask(2, api.Row{Cell: a, Agg: x}, api.Row{Cell: b, Agg: x})
	ask(3, api.Row{Cell: a, Agg: y}, api.Row{Cell: b, Agg: x})
	ask(4, api.Row{Cell: a, Agg: y})
	ask(5, api.Row{Cell: a, Agg: y})
	ask(6)
	for _, epoch := range []int{0, 7, 8, 1 << 40, math.MaxInt} {
		ask(epoch, api.Row{Cell: c, Agg: y})
	}
}

// P707: of each cell the newest version, and those of held epochs.
func TestPrune(t *testing.T) {
	s := newShard(t, 100)
	for _, epoch := range []int{2, 4, 6, 8} {
		s.Put(epoch, api.Row{Cell: a, Agg: api.Agg{Count: int64(epoch)}})
	}
	s.Put(5, api.Row{Cell: b, Agg: x})
	s.Kill(7, b)
	s.Put(3, api.Row{Cell: c, Agg: y})
	wantNumbers(t, s, 9, 2, 4)
	wantPrune(t, s, []int{9, 7, 1, 7, 5, 3}, 0)
	wantPrune(t, s, []int{7, 5, math.MinInt, 0}, 1)
	wantAt(t, s, a, 3, api.Agg{})
	wantAt(t, s, a, 5, api.Agg{Count: 4})
	wantAt(t, s, a, 7, api.Agg{Count: 6})
	wantNumbers(t, s, 8, 2, 3)
	wantPrune(t, s, []int{6, 6}, 1)
	wantAt(t, s, a, 5, api.Agg{})
	wantAt(t, s, a, 6, api.Agg{Count: 6})
	wantAt(t, s, b, 5, x)
	wantPrune(t, s, []int{7}, 2)
	wantNumbers(t, s, 5, 2, 2)
	wantAt(t, s, b, 5, api.Agg{})
	wantAt(t, s, a, 7, api.Agg{Count: 6})
	wantPrune(t, s, []int{8}, 1)
	wantPrune(t, s, nil, 0)
	wantNumbers(t, s, 4, 2, 1)
	wantAt(t, s, a, 8, api.Agg{Count: 8})
	wantAt(t, s, c, 3, y)
}

// P707: a tombstone alone goes, and its cell has no versions: it may be put at an older epoch again, and needs two units.
func TestPruneOfTombstones(t *testing.T) {
	s := newShard(t, 100)
	s.Put(5, api.Row{Cell: a, Agg: x})
	s.Kill(5, a)
	wantNumbers(t, s, 1, 0, 1)
	wantPut(t, s, 4, a, x, api.ErrOld)
	wantNeed(t, s, 5, []api.Cell{a}, 1)
	wantPrune(t, s, []int{5}, 1)
	wantNumbers(t, s, 0, 0, 0)
	wantNeed(t, s, 5, []api.Cell{a}, 2)
	wantKill(t, s, 1, a, api.ErrGone)
	wantPut(t, s, 1, a, y, api.OK)
	wantAt(t, s, a, 5, y)

	// One of a held epoch stays as long as there are others.
	s.Kill(2, a)
	s.Put(3, api.Row{Cell: a, Agg: x})
	wantPrune(t, s, []int{2}, 1)
	wantNumbers(t, s, 3, 1, 2)
	wantPut(t, s, 2, a, x, api.ErrOld)
	s.Kill(3, a)
	wantPrune(t, s, []int{2}, 0)
	wantPrune(t, s, []int{3}, 2)
	wantNumbers(t, s, 0, 0, 0)
}

// P707, P708: whatever is held, behind Prune there is what its promise says, and Prune again lets nothing go.
func TestPruneOfAny(t *testing.T) {
	r := rand.New(rand.NewPCG(5, 5))
	went, emptied := 0, 0
	for range 300 {
		cells := fewCells(r, 10)
		top := 1 + r.IntN(8)
		b := anyBoth(t, r, 1000, top, cells)
		held := anyHeld(r, top)
		had := len(b.p.cells)
		went += b.prune(held...)
		emptied += had - len(b.p.cells)
		b.same(cells...)
		slices.Reverse(held)
		wantPrune(t, b.s, held, 0)
		// What has no versions more is as a cell that never had some.
		for range 10 {
			b.step(r, 1+r.IntN(top+1), cells)
		}
		b.same(cells...)
	}
	if went < 500 || emptied < 100 {
		t.Errorf("%d went, %d cells were emptied: this tests too little", went, emptied)
	}
}
