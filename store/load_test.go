package store_test

import (
	"fmt"
	"math"
	"math/rand/v2"
	"runtime"
	"slices"
	"testing"
	"time"

	"spate/api"
)

// P1004: example 3.
func TestLoadExample(t *testing.T) {
	s := newStore(t, 2, 9)
	if told, errno := s.Load(0, 1, nil); len(told) != 0 || errno != api.ErrArg {
		t.Errorf("Load(0): %v, %v", told, errno)
	}
	wantLoad(t, s, 3, 1, rowsOf(a, a, api.Cell{}), api.OK, api.OK, api.ErrKey)
	wantScan(t, s, 0, lowest, highest, 9, rowsOf(a)...)
	wantUnits(t, s, s.Route("a"), 2)
}

// P1004: crews that may not be (nothing is put then: P4), and those that may, of no rows too.
func TestLoadCrew(t *testing.T) {
	s := newStore(t, 4, 9)
	for _, crew := range []int{math.MinInt, -8, -1, 0, 9, 16, 1 << 32, math.MaxInt} {
		for _, rows := range [][]api.Row{nil, rowsOf(a, b, c), rowsOf(api.Cell{})} {
			if told, errno := s.Load(crew, 1, rows); len(told) != 0 || errno != api.ErrArg {
				t.Errorf("Load(%d): %v, %v", crew, told, errno)
			}
		}
	}
	wantCounts(t, s, 0, 0)
	for crew := 1; crew <= 8; crew++ {
		wantLoad(t, s, crew, 1, nil)
		wantLoad(t, s, crew, 0, []api.Row{})
		wantLoad(t, s, crew, crew, rowsOf(a, b), api.OK, api.OK)
		wantCounts(t, s, 2, crew)
	}
}

// P1004: of rows of one cell the last is there; how many a shard takes hangs on their order, whatever is in other shards.
func TestLoadInOrder(t *testing.T) {
	for crew := 1; crew <= 8; crew++ {
		for shards := 1; shards <= 16; shards++ {
			b := newBoth(t, shards, 6)
			var rows []api.Row
			for round := range 4 {
				for i, key := range someKeys() {
					v := int64(100*round + i)
					agg := api.Agg{Count: 1, Sum: v, Min: v, Max: v}
					rows = append(rows, row(api.Cell{Key: key, Start: int64(round % 3)}, agg))
				}
			}
			told := b.load(crew, 1, rows)
			b.same(1)
			if full := slices.Index(told, api.ErrFull); full < 3 || !slices.Contains(told[full:], api.OK) {
				t.Errorf("full at %d: this tests too little", full)
			}
		}
	}
}

// P1004: each row's error stands at its place, and keeps no other row from being put.
func TestLoadErrors(t *testing.T) {
	for crew := 1; crew <= 8; crew++ {
		s := newStore(t, 2, 4)
		wantPut(t, s, 3, row(b, y), api.OK)
		rows := []api.Row{row(b, x), row(a, x), {}, row(a, api.Agg{}), row(c, x), row(e, x), row(api.Cell{View: 4, Key: "a"}, x), row(api.Cell{Key: "d", Start: 1<<61 + 1}, x), row(a, y), row(d, y)}
		wantLoad(t, s, crew, 2, rows, api.ErrOld, api.OK, api.ErrKey, api.ErrArg, api.OK, api.ErrFull, api.ErrView, api.ErrTime, api.OK, api.OK)
		wantScan(t, s, 0, lowest, highest, 9, row(a, y), row(b, y), row(c, x), row(d, y))
		wantCounts(t, s, 4, 1)
		for _, epoch := range wrongEpochs() {
			wantLoad(t, s, crew, epoch, rows[:3], api.ErrArg, api.ErrArg, api.ErrKey)
		}
		wantUnits(t, s, 0, 4)
		wantUnits(t, s, 1, 4)
	}
}

// P1004: rows by chance, onto whatever is there, are what they are one behind the other.
func TestLoadIsPuts(t *testing.T) {
	r := rand.New(rand.NewPCG(2, 2))
	told := map[api.Errno]int{}
	for i := range 300 {
		cells := fewCells(r, 10+r.IntN(60))
		top := 1 + r.IntN(3)
		b := anyBoth(t, r, 1+i%16, 4+r.IntN(20), top, cells)
		for range 3 {
			for _, errno := range b.load(1+r.IntN(8), top+r.IntN(2), anyRows(r, r.IntN(200), cells)) {
				told[errno]++
			}
		}
		b.same(top+1, cells...)
	}
	for _, errno := range []api.Errno{api.OK, api.ErrView, api.ErrKey, api.ErrTime, api.ErrArg, api.ErrOld, api.ErrFull} {
		if told[errno] < 100 {
			t.Errorf("only %d %v: this tests too little", told[errno], errno)
		}
	}
}

// P1004: many rows.
func TestLoadMany(t *testing.T) {
	const many = 100000
	var rows []api.Row
	for i := range many {
		rows = append(rows, row(api.Cell{View: i % 4, Key: fmt.Sprint(i % 30011), Start: int64(i % 3)}, x))
	}
	for _, crew := range []int{1, 8} {
		for _, shards := range []int{1, 16} {
			b := newBoth(t, shards, 12000)
			told := b.load(crew, 1, rows)
			if !slices.Contains(told, api.ErrFull) {
				t.Error("none was full: this tests too little")
			}
			b.rows(0, lowest, highest, math.MaxInt)
		}
	}
}

// P1004 and the language's rules: its goroutines are gone when it has answered.
func TestLoadLeavesNobody(t *testing.T) {
	before := runtime.NumGoroutine()
	s := newStore(t, 3, 100)
	for range 200 {
		s.Load(8, 1, rowsOf(a, b, c, d, e, f))
	}
	// A goroutine that is joined may still be on its way out.
	for tries := 0; runtime.NumGoroutine() > before; tries++ {
		if tries == 500 {
			t.Fatalf("%d goroutines; there were %d", runtime.NumGoroutine(), before)
		}
		time.Sleep(10 * time.Millisecond)
	}
}
