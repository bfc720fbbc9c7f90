package agg_test

import (
	"errors"
	"math"
	"math/big"
	"math/rand/v2"
	"testing"

	"spate/agg"
	"spate/api"
)

const (
	least = math.MinInt64
	most  = math.MaxInt64
)

// edges are the numbers around those at which something wraps.
func edges() []int64 {
	all := []int64{least, least + 1, least + 2, most - 2, most - 1, most}
	for _, n := range []int64{0, 1 << 30, 1 << 31, 1 << 32, 1 << 33, 3037000499, 3037000500, 1 << 53, 1 << 61, 1 << 62} {
		for d := int64(-2); d <= 2; d++ {
			all = append(all, n+d, -n+d)
		}
	}
	return all
}

// anyInt tells one of any length by chance, often near an edge.
func anyInt(r *rand.Rand) int64 {
	if r.IntN(4) == 0 {
		all := edges()
		return all[r.IntN(len(all))]
	}
	return int64(r.Uint64()) >> r.IntN(64)
}

func anyInts(r *rand.Rand, n, shift int) []int64 {
	l := make([]int64, n)
	for i := range l {
		l[i] = int64(r.Uint64()) >> shift
	}
	return l
}

// edgeAggs are some that hold edges in each field, nearly all of them not right.
func edgeAggs() []api.Agg {
	some := []int64{least, least + 1, -1, 0, 1, 2, 3, 1 << 62, most - 1, most}
	var all []api.Agg
	for _, count := range some {
		for _, sum := range some {
			for _, a := range some {
				for _, b := range some {
					all = append(all, api.Agg{Count: count, Sum: sum, Min: a, Max: b})
				}
			}
		}
	}
	return all
}

// rightAggs are those of edgeAggs, and some more, that may be by trueRight.
func rightAggs() []api.Agg {
	all := []api.Agg{
		{Count: 3, Sum: 1, Min: -5, Max: 3},
		{Count: 4, Sum: -20, Min: -5, Max: -5},
		{Count: 2, Sum: most, Min: 1, Max: most - 1},
		{Count: 1 << 61, Sum: 7, Min: -1, Max: 9},
	}
	for _, a := range edgeAggs() {
		if trueRight(a) {
			all = append(all, a)
		}
	}
	return all
}

// trueRight is P302 by numbers of any length.
func trueRight(a api.Agg) bool {
	if a.Count <= 0 {
		return a == api.Agg{}
	}
	if a.Count == 1 {
		return a == api.Agg{Count: 1, Sum: a.Sum, Min: a.Sum, Max: a.Sum}
	}
	ends := new(big.Int).Add(big.NewInt(a.Min), big.NewInt(a.Max))
	others := big.NewInt(a.Count - 2)
	low := new(big.Int).Mul(others, big.NewInt(a.Min))
	high := new(big.Int).Mul(others, big.NewInt(a.Max))
	sum := big.NewInt(a.Sum)
	return a.Min <= a.Max && sum.Cmp(low.Add(low, ends)) >= 0 && sum.Cmp(high.Add(high, ends)) <= 0
}

// An operation is a checked one and the same by numbers of any length.
type operation struct {
	op      byte
	checked func(a, b int64) (int64, error)
	truly   func(z, a, b *big.Int) *big.Int
}

func operations() []operation {
	return []operation{
		{'+', agg.Add, (*big.Int).Add},
		{'-', agg.Sub, (*big.Int).Sub},
		{'*', agg.Mul, (*big.Int).Mul},
	}
}

// wantOverflow asks for an *Overflow with these, found by errors.As, and its number by errors.Is.
func wantOverflow(t *testing.T, what any, err error, op byte, a, b int64) {
	t.Helper()
	want := agg.Overflow{Op: op, A: a, B: b}
	got, is := err.(*agg.Overflow)
	if !is || got == nil {
		t.Errorf("%v: error %v; want %+v", what, err, want)
		return
	}
	if *got != want {
		t.Errorf("%v: %+v; want %+v", what, *got, want)
	}
	var found *agg.Overflow
	if !errors.As(err, &found) || found != got || !errors.Is(err, api.ErrOverflow) {
		t.Errorf("%v: %v is not found by errors.As and errors.Is", what, err)
	}
}

// wantAgg asks for this aggregate and no error.
func wantAgg(t *testing.T, what any, got api.Agg, err error, want api.Agg) {
	t.Helper()
	if err != nil || got != want {
		t.Errorf("%v: %+v, %v; want %+v", what, got, err, want)
	}
}

// wantNoAgg asks for an *Overflow of a sum, and the zero value beside it (P4).
func wantNoAgg(t *testing.T, what any, got api.Agg, err error, a, b int64) {
	t.Helper()
	wantOverflow(t, what, err, '+', a, b)
	if got != (api.Agg{}) {
		t.Errorf("%v: %+v beside an error", what, got)
	}
}

// sameError tells whether two errors of this package say the same.
func sameError(a, b error) bool {
	if a == nil || b == nil {
		return a == nil && b == nil
	}
	x, is := a.(*agg.Overflow)
	y, too := b.(*agg.Overflow)
	return is && too && *x == *y
}
