package agg_test

import (
	"math"
	"math/big"
	"math/rand/v2"
	"slices"
	"testing"

	"spate/agg"
	"spate/api"
)

// P308: Put of a right one is right, unless it tells an error.
func TestPutStaysRight(t *testing.T) {
	told := 0
	for _, a := range rightAggs() {
		for _, v := range edges() {
			b, err := agg.Put(a, v)
			if err == nil {
				told++
			}
			if !agg.Right(b) || err == nil && b.Count == 0 {
				t.Errorf("Put(%+v, %d): %+v", a, v, b)
			}
		}
	}
	if told < 1000 {
		t.Errorf("only %d without an error: this tests too little", told)
	}
}

// P308: Merge of right ones is right, and knows no order; of an error only Overflow's A and B, which Add was handed, change places.
func TestMergeStaysRightInAnyOrder(t *testing.T) {
	told := 0
	for _, a := range rightAggs() {
		for _, b := range rightAggs() {
			c, err := agg.Merge(a, b)
			d, other := agg.Merge(b, a)
			if c != d || (err == nil) != (other == nil) {
				t.Errorf("%+v, %+v: %+v, %v; the other way %+v, %v", a, b, c, err, d, other)
			}
			if !agg.Right(c) {
				t.Errorf("Merge(%+v, %+v): %+v", a, b, c)
			}
			if err == nil {
				told++
				continue
			}
			o := err.(*agg.Overflow)
			wantNoAgg(t, "the other way", d, other, o.B, o.A)
		}
	}
	if told < 1000 {
		t.Errorf("only %d without an error: this tests too little", told)
	}
}

// P308: a list folded whole, and its parts folded and merged.
func TestPartsMakeTheWhole(t *testing.T) {
	r := rand.New(rand.NewPCG(5, 5))
	told := 0
	for range 20000 {
		shift := r.IntN(64)
		a, b := anyInts(r, r.IntN(5), shift), anyInts(r, r.IntN(5), shift)
		one, err1 := agg.Fold(a)
		two, err2 := agg.Fold(b)
		both, err3 := agg.Merge(one, two)
		whole, err4 := agg.Fold(append(slices.Clone(a), b...))
		if err1 != nil || err2 != nil || err3 != nil || err4 != nil {
			continue
		}
		told++
		if both != whole {
			t.Errorf("%v, %v: %+v merged, %+v folded", a, b, both, whole)
		}
	}
	if told < 10000 {
		t.Errorf("only %d without an error: this tests too little", told)
	}
}

// checkFold holds Fold against P309, its sums being of any length.
func checkFold(t *testing.T, l []int64) bool {
	t.Helper()
	got, err := agg.Fold(l)
	sum := new(big.Int)
	for _, v := range l {
		ahead := sum.Int64()
		if sum.Add(sum, big.NewInt(v)); !sum.IsInt64() {
			wantNoAgg(t, l, got, err, ahead, v)
			return false
		}
	}
	low, _ := agg.Least(l...)
	high, _ := agg.Most(l...)
	wantAgg(t, l, got, err, api.Agg{Count: int64(len(l)), Sum: sum.Int64(), Min: low, Max: high})
	return true
}

// P309: Fold's Count, Min, Max, and its first error.
func TestFoldOfAny(t *testing.T) {
	r := rand.New(rand.NewPCG(6, 6))
	fit, not := 0, 0
	for range 20000 {
		if checkFold(t, anyInts(r, r.IntN(20), r.IntN(3))) {
			fit++
		} else {
			not++
		}
	}
	if fit < 5000 || not < 5000 {
		t.Errorf("%d fit, %d do not: this tests too little", fit, not)
	}
	long := anyInts(r, 1<<16, 18)
	if !checkFold(t, long) {
		t.Error("a long list does not fit: this tests too little")
	}
}

// P1: no call panics, whatever it is given; P4: beside an error stands the zero value.
func TestWhateverIsGiven(t *testing.T) {
	wild := edgeAggs()
	r := rand.New(rand.NewPCG(7, 7))
	for _, a := range wild {
		agg.Right(a)
		agg.Mean(a)
		b := wild[r.IntN(len(wild))]
		if c, err := agg.Merge(a, b); err != nil && c != (api.Agg{}) {
			t.Errorf("Merge(%+v, %+v): %+v beside an error", a, b, c)
		}
		v := anyInt(r)
		if c, err := agg.Put(a, v); err != nil && c != (api.Agg{}) {
			t.Errorf("Put(%+v, %d): %+v beside an error", a, v, c)
		}
	}
	for _, l := range [][]float64{{math.NaN()}, {1, math.NaN()}, {math.NaN(), 1, math.Inf(-1)}} {
		if _, is := agg.Least(l...); !is {
			t.Errorf("%v has no least", l)
		}
		if _, is := agg.Most(l...); !is {
			t.Errorf("%v has no most", l)
		}
	}
}

// P2: a list that is handed in stays as it is, its spare room too; what was told stays when the list changes.
func TestListsStay(t *testing.T) {
	room := []int64{5, -3, most, 4, 1 << 62, 9, 9}
	before := slices.Clone(room)
	for n := range room {
		l := room[:n]
		agg.Fold(l)
		agg.Least(l...)
		agg.Most(l...)
		if !slices.Equal(room, before) {
			t.Fatalf("the first %d: %v; was %v", n, room, before)
		}
	}
	_, err := agg.Fold(room)
	told := err.Error()
	clear(room)
	if err.Error() != told {
		t.Errorf("%q became %q", told, err.Error())
	}
}

// P3: the same calls answer the same.
func TestTwiceTheSame(t *testing.T) {
	r := rand.New(rand.NewPCG(8, 8))
	rights := rightAggs()
	for range 2000 {
		a, b := rights[r.IntN(len(rights))], rights[r.IntN(len(rights))]
		v, l := anyInt(r), anyInts(r, r.IntN(6), r.IntN(4))
		for _, call := range []func() (api.Agg, error){
			func() (api.Agg, error) { return agg.Put(a, v) },
			func() (api.Agg, error) { return agg.Merge(a, b) },
			func() (api.Agg, error) { return agg.Fold(l) },
		} {
			first, err := call()
			second, again := call()
			if first != second || !sameError(err, again) {
				t.Errorf("%+v, %v; then %+v, %v", first, err, second, again)
			}
		}
		for _, o := range operations() {
			n, err := o.checked(v, a.Sum)
			m, again := o.checked(v, a.Sum)
			if n != m || !sameError(err, again) {
				t.Errorf("%d, %v; then %d, %v", n, err, m, again)
			}
		}
		if agg.Mean(a) != agg.Mean(a) || agg.Right(a) != agg.Right(a) {
			t.Errorf("%+v: not twice the same", a)
		}
	}
}
