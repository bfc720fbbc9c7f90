package shard_test

import (
	"math"
	"math/rand/v2"
	"slices"
	"testing"

	"spate/api"
	"spate/shard"
)

// told is all that a shard tells at an epoch: of cells alone, and of a range.
type told struct {
	aggs []api.Agg
	rows []api.Row
}

func toldAt(s *shard.Shard, epoch int, cells []api.Cell) told {
	var all told
	for _, c := range cells {
		all.aggs = append(all.aggs, s.At(c, epoch))
	}
	all.rows = s.Range(epoch, lowest, highest, math.MaxInt)
	return all
}

func (a told) same(b told) bool {
	return slices.Equal(a.aggs, b.aggs) && slices.Equal(a.rows, b.rows)
}

// P709: what is told at an epoch does not change by Put and Kill at epochs above.
func TestWritesAboveChangeNothing(t *testing.T) {
	r := rand.New(rand.NewPCG(6, 6))
	changed := 0
	for range 200 {
		cells := fewCells(r, 12)
		top := 1 + r.IntN(6)
		b := anyBoth(t, r, 200, top, cells)
		var before []told
		for epoch := 1; epoch <= top+1; epoch++ {
			before = append(before, toldAt(b.s, epoch, cells))
		}
		now := toldAt(b.s, 0, cells)
		for range 30 {
			b.step(r, top+3, cells)
		}
		for i, was := range before {
			if is := toldAt(b.s, 1+i, cells); !is.same(was) {
				t.Errorf("at %d: %v; was %v", 1+i, is, was)
			}
		}
		if !toldAt(b.s, 0, cells).same(now) {
			changed++
		}
	}
	if changed < 150 {
		t.Errorf("only %d changed now: this tests too little", changed)
	}
}

// P709: nor by Prune, if the epoch is held, or at or above the newest versions'; nor now (P707).
func TestPruneChangesNothingHeld(t *testing.T) {
	r := rand.New(rand.NewPCG(7, 7))
	went, others := 0, 0
	for range 300 {
		cells := fewCells(r, 10)
		top := 2 + r.IntN(6)
		b := anyBoth(t, r, 1000, top, cells)
		held := anyHeld(r, top)
		asked := append(slices.Clone(held), 0, top+1, top+2, 1<<40, math.MaxInt)
		before := map[int]told{}
		for _, epoch := range append(asked, 1, 2, 3, 4, 5) {
			before[epoch] = toldAt(b.s, epoch, cells)
		}
		went += b.prune(held...)
		for _, epoch := range asked {
			if is := toldAt(b.s, epoch, cells); !is.same(before[epoch]) {
				t.Errorf("at %d behind Prune(%v): %v; was %v", epoch, held, is, before[epoch])
			}
		}
		for epoch, was := range before {
			if !toldAt(b.s, epoch, cells).same(was) {
				others++
			}
		}
	}
	if went < 500 || others < 100 {
		t.Errorf("%d went, %d epochs told otherwise: this tests too little", went, others)
	}
}

// P710: what Fits told to fit is not refused with ErrFull, alone or together; what it told not to fit alone is.
func TestFitsIsNotRefused(t *testing.T) {
	r := rand.New(rand.NewPCG(8, 8))
	fit, full := 0, 0
	for range 1000 {
		cells := fewCells(r, 12)
		top := 1 + r.IntN(4)
		b := anyBoth(t, r, 2+r.IntN(40), top, cells)
		epoch := 1 + r.IntN(top+2)
		lone := cells[r.IntN(len(cells))]
		if !b.s.Fits(epoch, []api.Cell{lone}) {
			full++
			wantPut(t, b.s, epoch, lone, x, api.ErrFull)
			continue
		}
		some := cells[:1+r.IntN(len(cells))]
		if !b.s.Fits(epoch, some) {
			if b.put(epoch, lone, x) == api.ErrFull {
				t.Errorf("%v is refused, though it fits", lone)
			}
			continue
		}
		fit++
		for _, at := range some {
			if errno := b.put(epoch, at, y); errno == api.ErrFull {
				t.Errorf("%v of %d that fit is refused", at, len(some))
			}
		}
	}
	if fit < 200 || full < 100 {
		t.Errorf("%d fit, %d were full: this tests too little", fit, full)
	}
}

// P711: a range in pieces is the range.
func TestRangeInPieces(t *testing.T) {
	r := rand.New(rand.NewPCG(9, 9))
	pieces := 0
	for range 200 {
		cells := fewCells(r, 40)
		b := anyBoth(t, r, 300, 1+r.IntN(3), cells)
		epoch := r.IntN(4)
		from, to := cells[0], highest
		if r.IntN(2) == 0 {
			from, to = lowest, cells[1]
		}
		want := b.s.Range(epoch, from, to, math.MaxInt)
		var got []api.Row
		for len(got) <= len(want) {
			piece := b.s.Range(epoch, from, to, 1+r.IntN(4))
			if len(piece) == 0 {
				break
			}
			got = append(got, piece...)
			from = piece[len(piece)-1].Cell
			from.Start++
			pieces++
		}
		if !slices.Equal(got, want) {
			t.Errorf("%v in pieces; want %v", got, want)
		}
	}
	if pieces < 300 {
		t.Errorf("only %d pieces: this tests too little", pieces)
	}
}

// P1, P4: whatever is given; what is refused has changed nothing that a later call could tell.
func TestWhateverIsGiven(t *testing.T) {
	r := rand.New(rand.NewPCG(10, 10))
	wrongs := append(wrongCells(), lowest, highest, api.Cell{})
	for range 20 {
		cells := fewCells(r, 10)
		b := anyBoth(t, r, 30, 4, cells)
		for _, at := range wrongs {
			for _, epoch := range append(wrongEpochs(), 1, 5) {
				b.put(epoch, at, x)
				b.kill(epoch, at)
				b.s.At(at, epoch)
				b.s.Need(epoch, append(cells, at))
				b.s.Fits(epoch, append(cells, at))
				b.s.Range(epoch, at, at, epoch)
			}
		}
		for _, epoch := range wrongEpochs() {
			for _, at := range cells {
				b.put(epoch, at, x)
				b.kill(epoch, at)
			}
		}
		for _, v := range append(wrongAggs(), api.Agg{}) {
			for _, at := range append(cells, wrongs...) {
				b.put(5, at, v)
			}
		}
		b.same(cells...)
		b.prune(wrongEpochs()...)
		b.same(cells...)
	}
}

// P2: what is handed in is neither changed nor kept, its spare room neither.
func TestWhatIsHandedIn(t *testing.T) {
	s := newShard(t, 100)
	cells, held := []api.Cell{b, a, c, b}, []int{3, 1, 2, 9}
	key := []byte("a")
	s.Put(1, api.Row{Cell: api.Cell{Key: string(key)}, Agg: x})
	s.Put(2, api.Row{Cell: a, Agg: y})
	key[0] = 'b'
	s.Need(1, cells[:2])
	s.Fits(1, cells[:2])
	s.Prune(held[:2])
	if !slices.Equal(cells, []api.Cell{b, a, c, b}) || !slices.Equal(held, []int{3, 1, 2, 9}) {
		t.Errorf("%v, %v", cells, held)
	}
	wantAt(t, s, a, 1, x)
	clear(cells)
	clear(held)
	wantAt(t, s, a, 1, x)
	wantNumbers(t, s, 3, 1, 2)
}

// P2: an answer is new memory, its spare room too.
func TestAnswersAreNew(t *testing.T) {
	s := newShard(t, 100)
	for _, at := range someCells()[:20] {
		s.Put(1, api.Row{Cell: at, Agg: x})
	}
	for n := range 21 {
		want := s.Range(0, lowest, highest, 20)
		one, other := s.Range(0, lowest, highest, n), s.Range(0, lowest, highest, n)
		clear(one[:cap(one)])
		if !slices.Equal(other, want[:n]) {
			t.Errorf("%v; want %v", other, want[:n])
		}
		wantRows(t, s, 0, lowest, highest, 20, want...)
	}
}

// P3, P7: shards that are called alike tell the same, and have nothing in common.
func TestTwiceTheSame(t *testing.T) {
	for seed := range uint64(60) {
		cells := fewCells(rand.New(rand.NewPCG(seed, 1)), 12)
		a := anyBoth(t, rand.New(rand.NewPCG(seed, 2)), 40, 4, cells)
		other := anyBoth(t, rand.New(rand.NewPCG(seed, 3)), 40, 4, cells)
		b := anyBoth(t, rand.New(rand.NewPCG(seed, 2)), 40, 4, cells)
		both{t, a.s, b.p}.same(cells...)
		both{t, b.s, a.p}.same(cells...)
		for _, at := range cells {
			a.put(9, at, x)
			a.kill(9, at)
		}
		a.prune()
		a.same(cells...)
		b.same(cells...)
		other.same(cells...)
	}
}
