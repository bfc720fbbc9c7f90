package agg_test

import (
	"math"
	"math/rand/v2"
	"slices"
	"testing"

	"spate/agg"
)

// P307: the ends of a list, wherever they stand.
func checkEnds[T int | int64 | float64](t *testing.T, l []T, least, most T) {
	t.Helper()
	if n, is := agg.Least(l...); n != least || !is {
		t.Errorf("%v: least %v, %v; want %v", l, n, is, least)
	}
	if n, is := agg.Most(l...); n != most || !is {
		t.Errorf("%v: most %v, %v; want %v", l, n, is, most)
	}
}

// P307, P4: of no list and of an empty one there is nothing.
func checkNone[T int | int64 | float64](t *testing.T) {
	t.Helper()
	for _, l := range [][]T{nil, {}, make([]T, 0, 3)} {
		if n, is := agg.Least(l...); n != 0 || is {
			t.Errorf("%T: least %v, %v", n, n, is)
		}
		if n, is := agg.Most(l...); n != 0 || is {
			t.Errorf("%T: most %v, %v", n, n, is)
		}
	}
}

func TestLeastAndMost(t *testing.T) {
	checkEnds(t, []int{3}, 3, 3)
	checkEnds(t, []int{0}, 0, 0)
	checkEnds(t, []int{3, -1, 2}, -1, 3)
	checkEnds(t, []int{5, 6, 7}, 5, 7)
	checkEnds(t, []int{-5, -6, -7}, -7, -5)
	checkEnds(t, []int64{7, 7, 7}, 7, 7)
	checkEnds(t, []int64{most, least}, least, most)
	checkEnds(t, []int64{least, 0, most}, least, most)
	checkEnds(t, []int64{most - 1, most}, most-1, most)
	checkEnds(t, []float64{3.5, -1, 2}, -1, 3.5)
	checkEnds(t, []float64{0.5}, 0.5, 0.5)
	checkEnds(t, []float64{-0.25, -0.5}, -0.5, -0.25)
	checkEnds(t, []float64{1, math.Inf(1), 2}, 1, math.Inf(1))
	checkEnds(t, []float64{1, math.Inf(-1), 2}, math.Inf(-1), 2)
	checkEnds(t, []float64{math.MaxFloat64, math.SmallestNonzeroFloat64}, math.SmallestNonzeroFloat64, math.MaxFloat64)
	checkNone[int](t)
	checkNone[int64](t)
	checkNone[float64](t)
	if n, is := agg.Least(3.5, -1, 2); n != -1 || !is {
		t.Errorf("least of constants: %v, %v", n, is)
	}
}

// P307: any lists, held against sorted ones.
func TestLeastAndMostOfAny(t *testing.T) {
	r := rand.New(rand.NewPCG(4, 4))
	for range 5000 {
		l := anyInts(r, 1+r.IntN(9), r.IntN(64))
		sorted := slices.Sorted(slices.Values(l))
		checkEnds(t, l, sorted[0], sorted[len(sorted)-1])
		var ints []int
		var floats []float64
		for _, n := range l {
			ints = append(ints, int(n))
			floats = append(floats, float64(n)/8)
		}
		checkEnds(t, ints, int(sorted[0]), int(sorted[len(sorted)-1]))
		checkEnds(t, floats, float64(sorted[0])/8, float64(sorted[len(sorted)-1])/8)
	}
}
