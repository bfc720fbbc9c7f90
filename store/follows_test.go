package store_test

import (
	"math"
	"math/rand/v2"
	"slices"
	"testing"

	"spate/api"
	"spate/store"
)

// told is all that a shard tells up to an epoch: of its own cells, and of itself.
type told struct {
	units int
	aggs  []api.Agg
	fits  []bool
	rows  []api.Row
}

func (b both) toldOf(n, top int, cells []api.Cell) told {
	all := told{units: b.s.Units(n)}
	for epoch := range top + 1 {
		for _, c := range cells {
			if b.s.Route(c.Key) == n {
				all.aggs = append(all.aggs, b.s.At(c, epoch))
				all.fits = append(all.fits, b.s.Fits(epoch, []api.Cell{c}))
			}
		}
		all.rows = append(all.rows, b.s.Range(n, epoch, lowest, highest, math.MaxInt)...)
	}
	return all
}

func (a told) same(b told) bool {
	return a.units == b.units && slices.Equal(a.aggs, b.aggs) && slices.Equal(a.fits, b.fits) && slices.Equal(a.rows, b.rows)
}

// P1005: what a shard tells does not change by whatever is done to the others.
func TestShardsApart(t *testing.T) {
	r := rand.New(rand.NewPCG(3, 3))
	changed := 0
	for range 150 {
		cells := fewCells(r, 40)
		shards, top := 2+r.IntN(15), 1+r.IntN(4)
		b := anyBoth(t, r, shards, 4+r.IntN(20), top, cells)
		quiet := r.IntN(shards)
		others := slices.DeleteFunc(slices.Clone(cells), func(c api.Cell) bool { return b.s.Route(c.Key) == quiet })
		was := b.toldOf(quiet, top+2, cells)
		before := b.s.Scan(0, lowest, highest, math.MaxInt)
		for range 20 {
			b.step(r, top+1, others)
			b.prune((quiet+1+r.IntN(shards-1))%shards, anyHeld(r, top)...)
		}
		b.load(1+r.IntN(8), top+2, anyRows(r, 30, others))
		if is := b.toldOf(quiet, top+2, cells); !is.same(was) {
			t.Errorf("shard %d: %v; was %v", quiet, is, was)
		}
		if !slices.Equal(before, b.s.Scan(0, lowest, highest, math.MaxInt)) {
			changed++
		}
	}
	if changed < 120 {
		t.Errorf("only %d changed: this tests too little", changed)
	}
}

// P1005: Scan tells what one shard's Range does, if all keys are its own.
func TestScanIsOneShards(t *testing.T) {
	r := rand.New(rand.NewPCG(4, 4))
	found := 0
	for i := range 100 {
		cells := fewCells(r, 60)
		s, whole := newStore(t, 1+i%16, 1000), newShard(t, 10000)
		for epoch := 1; epoch <= 3; epoch++ {
			for range 40 {
				one := anyRow(r, cells)
				wantPut(t, s, epoch, one, whole.Put(epoch, one))
				at := cells[r.IntN(len(cells))]
				wantKill(t, s, epoch, at, whole.Kill(epoch, at))
			}
		}
		wantCounts(t, s, whole.Cells(), whole.Most())
		for range 40 {
			from, to := cells[r.IntN(len(cells))], cells[r.IntN(len(cells))]
			epoch, most := r.IntN(5), r.IntN(12)
			want := whole.Range(epoch, from, to, most)
			wantScan(t, s, epoch, from, to, most, want...)
			found += len(want)
		}
		for epoch := range 5 {
			wantScan(t, s, epoch, lowest, highest, math.MaxInt, whole.Range(epoch, lowest, highest, math.MaxInt)...)
		}
	}
	if found < 2000 {
		t.Errorf("only %d found: this tests too little", found)
	}
}

// P1006: a range in two is the range, be the cell between there or not, or one that may not be.
func TestScanInTwo(t *testing.T) {
	r := rand.New(rand.NewPCG(5, 5))
	split := 0
	for i := range 150 {
		cells := fewCells(r, 40)
		b := anyBoth(t, r, 1+i%16, 100, 3, cells)
		epoch := r.IntN(4)
		marks := append(wrongCells(), lowest, highest)
		for range 60 {
			three := []api.Row{{Cell: cells[r.IntN(40)]}, {Cell: cells[r.IntN(40)]}, {Cell: marks[r.IntN(len(marks))]}}
			marks = append(marks, cells[r.IntN(40)])
			slices.SortFunc(three, byRow)
			from, between, to := three[0].Cell, three[1].Cell, three[2].Cell
			most := r.IntN(50)
			first := b.s.Scan(epoch, from, between, most)
			second := b.s.Scan(epoch, between, to, most-len(first))
			wantScan(t, b.s, epoch, from, to, most, slices.Concat(first, second)...)
			if len(first) > 0 && len(second) > 0 {
				split++
			}
		}
	}
	if split < 1000 {
		t.Errorf("only %d were split: this tests too little", split)
	}
}

// P1, P4: whatever is given; what is refused has changed nothing that a later call could tell.
func TestWhateverIsGiven(t *testing.T) {
	r := rand.New(rand.NewPCG(6, 6))
	wrongs := append(wrongCells(), lowest, highest)
	for i := range 16 {
		cells := fewCells(r, 20)
		b := anyBoth(t, r, 1+i, 12, 3, cells)
		for _, at := range wrongs {
			for _, n := range anyInts() {
				b.put(n, row(at, x))
				b.kill(n, at)
				b.s.At(at, n)
				b.s.Fits(n, append(cells, at))
				b.s.Range(n, n, at, at, n)
				b.s.Scan(n, at, highest, n)
			}
		}
		for _, epoch := range wrongEpochs() {
			for _, at := range cells {
				b.put(epoch, row(at, x))
				b.kill(epoch, at)
			}
			b.load(8, epoch, rowsOf(append(cells, wrongs...)...))
		}
		for _, v := range wrongAggs() {
			for _, at := range cells {
				b.put(4, row(at, v))
			}
		}
		for _, crew := range []int{math.MinInt, -1, 0, 9, math.MaxInt} {
			b.s.Load(crew, 4, rowsOf(cells...))
		}
		b.same(4, cells...)
		b.prune(r.IntN(1+i), anyInts()...)
		b.same(4, cells...)
	}
}

// P2: what is handed in is neither changed nor kept, its spare room neither.
func TestWhatIsHandedIn(t *testing.T) {
	for shards := 1; shards <= 16; shards++ {
		s := newStore(t, shards, 100)
		cells, held, rows := []api.Cell{f, b, a, c, b}, []int{3, 1, 2, 9}, rowsOf(d, a, c, a, f)
		s.Load(3, 1, rows[:4])
		s.Load(8, 2, rows[:4])
		s.Fits(1, cells[:3])
		s.Prune(s.Route("a"), held[:2])
		if !slices.Equal(cells, []api.Cell{f, b, a, c, b}) || !slices.Equal(held, []int{3, 1, 2, 9}) || !slices.Equal(rows, rowsOf(d, a, c, a, f)) {
			t.Errorf("%v, %v, %v", cells, held, rows)
		}
		clear(cells)
		clear(held)
		clear(rows)
		wantScan(t, s, 1, lowest, highest, 9, rowsOf(a, c, d)...)
		wantScan(t, s, 2, lowest, highest, 9, rowsOf(a, c, d)...)
		wantAt(t, s, a, 1, x)
		wantCounts(t, s, 3, 2)
	}
}

// P2: an answer is new memory, its spare room too.
func TestAnswersAreNew(t *testing.T) {
	for shards := 1; shards <= 4; shards++ {
		s := newStore(t, shards, 100)
		rows := rowsOf(someCells()[:20]...)
		want := make([]api.Errno, len(rows))
		for range 2 {
			got, _ := s.Load(4, 1, rows)
			wantLoad(t, s, 4, 1, rows, want...)
			for i := range got[:cap(got)] {
				got[:cap(got)][i] = api.ErrFull
			}
			wantLoad(t, s, 4, 1, rows, want...)
		}
		for n := range 21 {
			all := s.Scan(0, lowest, highest, 20)
			first := s.Range(0, 0, lowest, highest, 20)
			one, other := s.Scan(0, lowest, highest, n), s.Scan(0, lowest, highest, n)
			clear(one[:cap(one)])
			mine := s.Range(0, 0, lowest, highest, n)
			clear(mine[:cap(mine)])
			if !slices.Equal(other, all[:n]) {
				t.Errorf("%v; want %v", other, all[:n])
			}
			wantScan(t, s, 0, lowest, highest, 20, all...)
			wantRange(t, s, 0, 0, lowest, highest, 20, first...)
		}
	}
}

// P5: lists that were answered stay what they were, whatever is done to the store.
func TestListsStay(t *testing.T) {
	s := newStore(t, 2, 100)
	told, _ := s.Load(2, 1, rowsOf(a, b, c, api.Cell{}))
	all, some := s.Scan(0, lowest, highest, 9), s.Range(0, 0, lowest, highest, 9)
	s.Load(2, 2, []api.Row{{}, row(a, y), row(b, y), row(c, y), row(d, y)})
	s.Kill(3, a)
	s.Kill(3, c)
	s.Prune(0, nil)
	s.Prune(1, nil)
	if !slices.Equal(told, []api.Errno{api.OK, api.OK, api.OK, api.ErrKey}) || !slices.Equal(all, rowsOf(a, b, c)) || !slices.Equal(some, rowsOf(a, c)) {
		t.Errorf("%v, %v, %v", told, all, some)
	}
	wantScan(t, s, 0, lowest, highest, 9, row(b, y), row(d, y))
}

// P3, P7: stores that are called alike tell the same, and have nothing in common.
func TestTwiceTheSame(t *testing.T) {
	for seed := range uint64(48) {
		cells := fewCells(rand.New(rand.NewPCG(seed, 1)), 20)
		shards := 1 + int(seed%16)
		one := anyBoth(t, rand.New(rand.NewPCG(seed, 2)), shards, 12, 3, cells)
		other := anyBoth(t, rand.New(rand.NewPCG(seed, 3)), shards, 12, 3, cells)
		twin := anyBoth(t, rand.New(rand.NewPCG(seed, 2)), shards, 12, 3, cells)
		both{t, one.s, twin.p}.same(4, cells...)
		both{t, twin.s, one.p}.same(4, cells...)
		one.load(8, 9, rowsOf(cells...))
		for _, at := range cells {
			one.kill(9, at)
		}
		for n := range shards {
			one.prune(n)
		}
		one.same(9, cells...)
		twin.same(9, cells...)
		other.same(9, cells...)
	}
}

// P3, P1004: a load that is done again and again to the same store, by whatever crew, answers the same.
func TestLoadAgain(t *testing.T) {
	cells := fewCells(rand.New(rand.NewPCG(8, 8)), 80)
	rows := anyRows(rand.New(rand.NewPCG(9, 9)), 400, cells)
	fresh := func() *store.Store { return newStore(t, 7, 14) }
	first := fresh()
	want, _ := first.Load(1, 1, rows)
	all := first.Scan(0, lowest, highest, math.MaxInt)
	for i := range 200 {
		s := fresh()
		wantLoad(t, s, 1+i%8, 1, rows, want...)
		wantScan(t, s, 0, lowest, highest, math.MaxInt, all...)
	}
}
