package shard_test

import (
	"math"
	"math/rand/v2"
	"testing"

	"spate/api"
)

// P705: each of the promise's cases.
func TestNeedOfEach(t *testing.T) {
	s := newShard(t, 100)
	d, e := api.Cell{Key: "d"}, api.Cell{Key: "e"}
	s.Put(5, api.Row{Cell: a, Agg: x})
	s.Put(3, api.Row{Cell: b, Agg: x})
	s.Kill(5, b)
	s.Put(5, api.Row{Cell: c, Agg: x})
	s.Kill(5, c)
	s.Put(5, api.Row{Cell: e, Agg: x})
	s.Kill(5, e)
	s.Put(5, api.Row{Cell: e, Agg: y})
	for _, of := range []struct {
		cell api.Cell
		need map[int]int
	}{
		{a, map[int]int{1: 0, 4: 0, 5: 0, 6: 1, 1 << 40: 1}},
		{b, map[int]int{1: 0, 3: 0, 4: 0, 5: 1, 6: 2, 1 << 40: 2}},
		{c, map[int]int{1: 0, 4: 0, 5: 1, 6: 2, 1 << 40: 2}},
		{d, map[int]int{1: 2, 5: 2, 1 << 40: 2}},
		{e, map[int]int{1: 0, 4: 0, 5: 0, 6: 1}},
		{api.Cell{View: 1, Key: "a"}, map[int]int{1: 2, 5: 2}},
		{api.Cell{Key: "a", Start: 1}, map[int]int{1: 2, 5: 2}},
	} {
		for epoch, want := range of.need {
			wantNeed(t, s, epoch, []api.Cell{of.cell}, want)
		}
	}
	wantNeed(t, s, 6, []api.Cell{a, b, c, d, e}, 8)
	wantNeed(t, s, 5, []api.Cell{a, b, c, d, e}, 4)
}

// P705: each unlike cell is counted once; of those that may not be none.
func TestNeedOfLists(t *testing.T) {
	b := newBoth(t, 8)
	for _, epoch := range []int{1, 2, 1 << 40} {
		wantNeed(t, b.s, epoch, nil, 0)
		wantNeed(t, b.s, epoch, []api.Cell{}, 0)
		wantNeed(t, b.s, epoch, wrongCells(), 0)
		wantNeed(t, b.s, epoch, append(wrongCells(), a, a, c, a, c), 4)
		wantNeed(t, b.s, epoch, append(someCells(), someCells()...), 2*len(someCells()))
		wantFits(t, b.s, epoch, append(wrongCells(), someCells()[:4]...), true)
		wantFits(t, b.s, epoch, append(wrongCells(), someCells()[:5]...), false)
		wantFits(t, b.s, epoch, nil, true)
	}
	for _, at := range someCells()[:4] {
		b.put(1, at, x)
	}
	wantFits(t, b.s, 1, someCells()[:4], true)
	wantFits(t, b.s, 1, nil, true)
	wantFits(t, b.s, 1, wrongCells(), true)
	wantFits(t, b.s, 2, someCells()[:1], false)
}

// P705: Fits just up to the bound.
func TestFitsAtTheBound(t *testing.T) {
	for slots := 2; slots < 12; slots++ {
		s := newShard(t, slots)
		s.Put(1, api.Row{Cell: a, Agg: x})
		cells := someCells()
		for n := range 8 {
			wantFits(t, s, 1, cells[10:10+n], 2+2*n <= slots)
		}
		wantFits(t, s, 2, []api.Cell{a}, slots >= 3)
	}
}

// P705: Need changes nothing, and is by how much Units is more behind the writes.
func TestNeedIsWhatIsNeeded(t *testing.T) {
	r := rand.New(rand.NewPCG(2, 2))
	sum := 0
	for range 300 {
		cells := fewCells(r, 12)
		b := anyBoth(t, r, 1000, 1+r.IntN(6), cells)
		epoch := 1 + r.IntN(8)
		some := append(cells[:r.IntN(12)], cells[:r.IntN(12)]...)
		before, need := b.s.Units(), b.need(epoch, some...)
		if b.s.Units() != before {
			t.Errorf("%d units, then %d", before, b.s.Units())
		}
		for _, at := range some {
			b.put(epoch, at, x)
		}
		if more := b.s.Units() - before; more != need {
			t.Errorf("%d units more; Need was %d", more, need)
		}
		sum += need
	}
	if sum < 500 {
		t.Errorf("only %d were needed: this tests too little", sum)
	}
}

// P708: what a shard has, counted by what Put, Kill and Prune did; Most goes down by Prune alone.
func TestNumbers(t *testing.T) {
	s := newShard(t, 100)
	wantNumbers(t, s, 0, 0, 0)
	for epoch := 1; epoch <= 5; epoch++ {
		s.Put(epoch, api.Row{Cell: a, Agg: x})
		wantNumbers(t, s, epoch+1, 1, epoch)
	}
	s.Put(1, api.Row{Cell: b, Agg: x})
	wantNumbers(t, s, 8, 2, 5)
	s.Kill(1, b)
	wantNumbers(t, s, 7, 1, 5)
	s.Kill(6, a)
	wantNumbers(t, s, 7, 0, 6)
	s.Put(2, api.Row{Cell: b, Agg: x})
	wantNumbers(t, s, 9, 1, 6)
	// Refusals count for nothing.
	s.Put(1, api.Row{Cell: a, Agg: x})
	s.Kill(6, a)
	s.Put(7, api.Row{Cell: a})
	wantNumbers(t, s, 9, 1, 6)
	wantPrune(t, s, []int{3, 1}, 3)
	wantNumbers(t, s, 6, 1, 3)
	wantPrune(t, s, []int{math.MaxInt}, 4)
	wantNumbers(t, s, 2, 1, 1)
	s.Kill(2, b)
	wantPrune(t, s, nil, 1)
	wantNumbers(t, s, 0, 0, 0)
}
