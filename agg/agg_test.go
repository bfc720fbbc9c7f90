package agg_test

import (
	"math"
	"math/big"
	"math/rand/v2"
	"testing"

	"spate/agg"
	"spate/api"
)

// P302: the chapter's example 3, and each of its cases with its edges.
func TestRightByHand(t *testing.T) {
	for _, c := range []struct {
		a     api.Agg
		right bool
	}{
		{api.Agg{}, true},
		{api.Agg{Sum: 1}, false},
		{api.Agg{Min: -1}, false},
		{api.Agg{Max: 1}, false},
		{api.Agg{Count: -1}, false},
		{api.Agg{Count: -1, Sum: 5, Min: 5, Max: 5}, false},
		{api.Agg{Count: least}, false},
		{api.Agg{Count: 1}, true},
		{api.Agg{Count: 1, Sum: 5, Min: 5, Max: 5}, true},
		{api.Agg{Count: 1, Sum: least, Min: least, Max: least}, true},
		{api.Agg{Count: 1, Sum: 5, Min: 4, Max: 5}, false},
		{api.Agg{Count: 1, Sum: 5, Min: 5, Max: 6}, false},
		{api.Agg{Count: 1, Sum: 4, Min: 5, Max: 5}, false},
		{api.Agg{Count: 2, Sum: 0, Min: 1, Max: 1}, false},
		{api.Agg{Count: 2, Sum: 2, Min: 1, Max: 1}, true},
		{api.Agg{Count: 2, Sum: 0, Min: 1, Max: -1}, false},
		{api.Agg{Count: 2, Sum: -1, Min: least, Max: most}, true},
		{api.Agg{Count: 2, Sum: 0, Min: least, Max: most}, false},
		{api.Agg{Count: 2, Sum: 0, Min: least, Max: least}, false},
		{api.Agg{Count: 2, Sum: -2, Min: most, Max: most}, false},
		{api.Agg{Count: 3, Sum: 0, Min: -1, Max: 1}, true},
		{api.Agg{Count: 3, Sum: -1, Min: -1, Max: 1}, true},
		{api.Agg{Count: 3, Sum: 1, Min: -1, Max: 1}, true},
		{api.Agg{Count: 3, Sum: -2, Min: -1, Max: 1}, false},
		{api.Agg{Count: 3, Sum: 2, Min: -1, Max: 1}, false},
		{api.Agg{Count: 3, Sum: 5, Min: 3, Max: 1}, false},
		{api.Agg{Count: 4, Sum: 0, Min: 1 << 62, Max: 1 << 62}, false},
		{api.Agg{Count: 4, Sum: 0, Min: -1 << 62, Max: -1 << 62}, false},
		{api.Agg{Count: most, Sum: most, Min: 1, Max: 1}, true},
		{api.Agg{Count: most, Sum: most - 1, Min: 1, Max: 1}, false},
		{api.Agg{Count: most, Sum: most, Min: 0, Max: 1}, false},
		{api.Agg{Count: most, Sum: most - 1, Min: 0, Max: 1}, true},
		{api.Agg{Count: most, Sum: -most, Min: -1, Max: -1}, true},
		{api.Agg{Count: most, Sum: least, Min: -1, Max: -1}, false},
		{api.Agg{Count: most, Sum: most, Min: least, Max: most}, true},
		{api.Agg{Count: most, Sum: least, Min: least, Max: most}, true},
		{api.Agg{Count: most, Sum: most, Min: most, Max: most}, false},
		{api.Agg{Count: most, Sum: least, Min: least, Max: least}, false},
	} {
		if agg.Right(c.a) != c.right {
			t.Errorf("%+v: %v", c.a, !c.right)
		}
	}
}

// P302: edges in each field, and any numbers, by numbers of any length.
func TestRightByTruth(t *testing.T) {
	for _, a := range edgeAggs() {
		if agg.Right(a) != trueRight(a) {
			t.Errorf("%+v: %v", a, agg.Right(a))
		}
	}
	r := rand.New(rand.NewPCG(2, 2))
	rights := 0
	for range 200000 {
		low, high := anyInt(r), anyInt(r)
		a := api.Agg{Count: anyInt(r), Sum: anyInt(r), Min: min(low, high), Max: max(low, high)}
		if agg.Right(a) != trueRight(a) {
			t.Errorf("%+v: %v", a, agg.Right(a))
		}
		if trueRight(a) {
			rights++
		}
	}
	if rights < 10000 {
		t.Errorf("only %d were right: this tests too little", rights)
	}
}

// P302: at the very bounds of a sum that fits, and one beside them.
func TestRightAtTheBounds(t *testing.T) {
	for _, count := range []int64{2, 3, 4, 1 << 20, 1 << 31, 1 << 62, most} {
		for _, low := range edges() {
			for _, high := range edges() {
				others := big.NewInt(count - 2)
				for _, between := range []int64{low, high} {
					bound := new(big.Int).Mul(others, big.NewInt(between))
					bound.Add(bound, big.NewInt(low)).Add(bound, big.NewInt(high))
					for d := int64(-1); d <= 1; d++ {
						sum := new(big.Int).Add(bound, big.NewInt(d))
						// One that does not fit is taken with what is left of it: whoever reckons in 64 bits thinks it right.
						a := api.Agg{Count: count, Sum: int64(new(big.Int).And(sum, new(big.Int).SetUint64(math.MaxUint64)).Uint64()), Min: low, Max: high}
						if agg.Right(a) != trueRight(a) {
							t.Fatalf("%+v: %v", a, agg.Right(a))
						}
					}
				}
			}
		}
	}
}

// P302: just those aggregates are right that some values have: all lists of up to 5 small values.
func TestRightIsThatThereAreValues(t *testing.T) {
	have := map[api.Agg]bool{{}: true}
	var lists func(a api.Agg, left int)
	lists = func(a api.Agg, left int) {
		have[a] = true
		for v := int64(-3); v <= 3 && left > 0; v++ {
			b := api.Agg{Count: a.Count + 1, Sum: a.Sum + v, Min: min(a.Min, v), Max: max(a.Max, v)}
			if a.Count == 0 {
				b.Min, b.Max = v, v
			}
			lists(b, left-1)
		}
	}
	lists(api.Agg{}, 5)
	for count := int64(-1); count <= 5; count++ {
		for sum := int64(-16); sum <= 16; sum++ {
			for low := int64(-3); low <= 3; low++ {
				for high := int64(-3); high <= 3; high++ {
					a := api.Agg{Count: count, Sum: sum, Min: low, Max: high}
					if agg.Right(a) != have[a] {
						t.Errorf("%+v: %v", a, agg.Right(a))
					}
				}
			}
		}
	}
}

// P303: ordinary values, the first one, both errors and which is first; example 4.
func TestPut(t *testing.T) {
	for _, c := range []struct {
		a    api.Agg
		v    int64
		want api.Agg
	}{
		{api.Agg{}, 7, api.Agg{Count: 1, Sum: 7, Min: 7, Max: 7}},
		{api.Agg{}, -7, api.Agg{Count: 1, Sum: -7, Min: -7, Max: -7}},
		{api.Agg{}, 0, api.Agg{Count: 1}},
		{api.Agg{}, least, api.Agg{Count: 1, Sum: least, Min: least, Max: least}},
		{api.Agg{}, most, api.Agg{Count: 1, Sum: most, Min: most, Max: most}},
		{api.Agg{Count: 1, Sum: 7, Min: 7, Max: 7}, 5, api.Agg{Count: 2, Sum: 12, Min: 5, Max: 7}},
		{api.Agg{Count: 1, Sum: 7, Min: 7, Max: 7}, 9, api.Agg{Count: 2, Sum: 16, Min: 7, Max: 9}},
		{api.Agg{Count: 2, Sum: 12, Min: 5, Max: 7}, 6, api.Agg{Count: 3, Sum: 18, Min: 5, Max: 7}},
		{api.Agg{Count: 1}, 0, api.Agg{Count: 2}},
		{api.Agg{Count: 1, Sum: most, Min: most, Max: most}, least, api.Agg{Count: 2, Sum: -1, Min: least, Max: most}},
		{api.Agg{Count: most - 1, Sum: most - 1, Min: 1, Max: 1}, 1, api.Agg{Count: most, Sum: most, Min: 1, Max: 1}},
	} {
		got, err := agg.Put(c.a, c.v)
		wantAgg(t, c, got, err, c.want)
	}
	for _, c := range []struct {
		a          api.Agg
		v, one, by int64
	}{
		{api.Agg{Count: 1, Sum: 1 << 62, Min: 1 << 62, Max: 1 << 62}, 1 << 62, 1 << 62, 1 << 62},
		{api.Agg{Count: 1, Sum: least, Min: least, Max: least}, -1, least, -1},
		{api.Agg{Count: most}, 0, most, 1},
		{api.Agg{Count: most, Sum: 5, Min: -1, Max: 1}, most, most, 1},
		{api.Agg{Count: most, Sum: -most, Min: -1, Max: -1}, least, most, 1},
	} {
		got, err := agg.Put(c.a, c.v)
		wantNoAgg(t, c, got, err, c.one, c.by)
	}
}

// P304: ordinary ones, those without values, both errors and which is first.
func TestMerge(t *testing.T) {
	three := api.Agg{Count: 3, Sum: 1, Min: -5, Max: 3}
	for _, c := range []struct{ a, b, want api.Agg }{
		{three, api.Agg{Count: 1, Sum: 9, Min: 9, Max: 9}, api.Agg{Count: 4, Sum: 10, Min: -5, Max: 9}},
		{three, api.Agg{Count: 2, Sum: -13, Min: -9, Max: -4}, api.Agg{Count: 5, Sum: -12, Min: -9, Max: 3}},
		{three, three, api.Agg{Count: 6, Sum: 2, Min: -5, Max: 3}},
		{three, api.Agg{Count: 2}, api.Agg{Count: 5, Sum: 1, Min: -5, Max: 3}},
		{api.Agg{}, three, three},
		{three, api.Agg{}, three},
		{api.Agg{}, api.Agg{}, api.Agg{}},
		{api.Agg{}, api.Agg{Count: most, Sum: most, Min: 1, Max: 1}, api.Agg{Count: most, Sum: most, Min: 1, Max: 1}},
		// The noughts of no values are no least and no greatest one.
		{api.Agg{}, api.Agg{Count: 1, Sum: 9, Min: 9, Max: 9}, api.Agg{Count: 1, Sum: 9, Min: 9, Max: 9}},
		{api.Agg{Count: 1, Sum: -9, Min: -9, Max: -9}, api.Agg{}, api.Agg{Count: 1, Sum: -9, Min: -9, Max: -9}},
		{api.Agg{Count: 1, Sum: most, Min: most, Max: most}, api.Agg{Count: 1, Sum: least, Min: least, Max: least}, api.Agg{Count: 2, Sum: -1, Min: least, Max: most}},
	} {
		got, err := agg.Merge(c.a, c.b)
		wantAgg(t, c, got, err, c.want)
	}
	many := api.Agg{Count: 1 << 62, Sum: 1 << 62, Min: 1, Max: 1}
	for _, c := range []struct {
		a, b    api.Agg
		one, by int64
	}{
		{many, many, 1 << 62, 1 << 62},
		{api.Agg{Count: most}, api.Agg{Count: 2}, most, 2},
		{api.Agg{Count: 2}, api.Agg{Count: most}, 2, most},
		{api.Agg{Count: most, Sum: most, Min: 1, Max: 1}, api.Agg{Count: 1, Sum: 5, Min: 5, Max: 5}, most, 1},
		{api.Agg{Count: 1, Sum: most, Min: most, Max: most}, api.Agg{Count: 1, Sum: 5, Min: 5, Max: 5}, most, 5},
		{three, api.Agg{Count: 1, Sum: most, Min: most, Max: most}, 1, most},
		{api.Agg{Count: 2, Sum: least, Min: -1 << 62, Max: -1 << 62}, api.Agg{Count: 1, Sum: -1, Min: -1, Max: -1}, least, -1},
	} {
		got, err := agg.Merge(c.a, c.b)
		wantNoAgg(t, c, got, err, c.one, c.by)
	}
}

// P305: example 2, no list, an empty one, and the first error of several.
func TestFold(t *testing.T) {
	for _, c := range []struct {
		l    []int64
		want api.Agg
	}{
		{nil, api.Agg{}},
		{[]int64{}, api.Agg{}},
		{[]int64{3, -5, 3}, api.Agg{Count: 3, Sum: 1, Min: -5, Max: 3}},
		{[]int64{4}, api.Agg{Count: 1, Sum: 4, Min: 4, Max: 4}},
		{[]int64{0}, api.Agg{Count: 1}},
		{[]int64{5, 9, 6}, api.Agg{Count: 3, Sum: 20, Min: 5, Max: 9}},
		{[]int64{-5, -9}, api.Agg{Count: 2, Sum: -14, Min: -9, Max: -5}},
		{[]int64{most, least, most, 1}, api.Agg{Count: 4, Sum: most, Min: least, Max: most}},
	} {
		got, err := agg.Fold(c.l)
		wantAgg(t, c, got, err, c.want)
	}
	for _, c := range []struct {
		l       []int64
		one, by int64
	}{
		{[]int64{1 << 62, -1, 1 << 62, 1, -5}, most, 1},
		{[]int64{most, 1, 1, -5}, most, 1},
		{[]int64{least, -3, most, most, most}, least, -3},
		{[]int64{-1, most, 1, least, least, -7}, -1, least},
	} {
		got, err := agg.Fold(c.l)
		wantNoAgg(t, c, got, err, c.one, c.by)
	}
}

// P306: example 2, no values, and sums and counts that are no float64.
func TestMean(t *testing.T) {
	for _, c := range []struct {
		a    api.Agg
		want float64
	}{
		{api.Agg{}, 0},
		{api.Agg{Count: 3, Sum: 1, Min: -5, Max: 3}, 0.3333333333333333},
		{api.Agg{Count: 1, Sum: -4, Min: -4, Max: -4}, -4},
		{api.Agg{Count: 2, Sum: -7, Min: -4, Max: -3}, -3.5},
		{api.Agg{Count: 2, Sum: 0, Min: -4, Max: 4}, 0},
		{api.Agg{Count: 1, Sum: most, Min: most, Max: most}, 1 << 63},
		{api.Agg{Count: 1, Sum: least, Min: least, Max: least}, -1 << 63},
		{api.Agg{Count: most, Sum: most, Min: 1, Max: 1}, 1},
		// The true one is 3002399751580331; the sum is made a float64 ahead of that.
		{api.Agg{Count: 3, Sum: 1<<53 + 1, Min: 0, Max: 1<<53 + 1}, 3002399751580330.5},
	} {
		if got := agg.Mean(c.a); got != c.want {
			t.Errorf("%+v: %v; want %v", c.a, got, c.want)
		}
	}
}

// P306: any sums and counts: the true quotient of the two floats, rounded once.
func TestMeanByTruth(t *testing.T) {
	r := rand.New(rand.NewPCG(3, 3))
	for range 20000 {
		a := api.Agg{Count: 1 + int64(r.Uint64N(most))>>r.IntN(62), Sum: anyInt(r), Min: least, Max: most}
		sum := new(big.Rat).SetFloat64(float64(a.Sum))
		count := new(big.Rat).SetFloat64(float64(a.Count))
		want, _ := sum.Quo(sum, count).Float64()
		if got := agg.Mean(a); got != want {
			t.Errorf("%+v: %v; want %v", a, got, want)
		}
	}
}
