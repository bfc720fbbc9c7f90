package merge_test

import (
	"cmp"
	"math"
	"math/rand/v2"
	"slices"
	"testing"

	"spate/api"
	"spate/merge"
)

// P804: the chapter's example; like cells by their lists, and in a list as they stand; the first most.
func TestRowsExamples(t *testing.T) {
	r1, r2, r3, r4 := newRow("1", 1), newRow("2", 2), newRow("3", 3), newRow("4", 4)
	c1, c2, c3, c4 := newRow("c", 1), newRow("c", 2), newRow("c", 3), newRow("c", 4)
	for _, x := range []struct {
		most  int
		lists [][]api.Row
		want  []api.Row
	}{
		{2, [][]api.Row{{r1, r4}, {r2, r3}}, []api.Row{r1, r2}},
		{9, [][]api.Row{{r1, r4}, {r2, r3}}, []api.Row{r1, r2, r3, r4}},
		{9, [][]api.Row{{c4, c1}, {c3, c2}}, []api.Row{c4, c1, c3, c2}},
		{3, [][]api.Row{{c4, c1}, {c3, c2}}, []api.Row{c4, c1, c3}},
		{9, [][]api.Row{{c3, r4}, {r1, c2}, nil, {c1}}[1:], []api.Row{r1, c2, c1}},
		{9, [][]api.Row{{r1, c3}, {r1, c2}, nil, {r1, c1}}, []api.Row{r1, r1, r1, c3, c2, c1}},
		{9, nil, nil},
		{9, [][]api.Row{nil, {}, nil}, nil},
		{1, [][]api.Row{nil, {r2}, nil}, []api.Row{r2}},
		{0, [][]api.Row{{r1}}, nil},
		{-1, [][]api.Row{{r1}}, nil},
		{math.MinInt, [][]api.Row{{r1}}, nil},
		{math.MaxInt, [][]api.Row{{r2}, {r1}}, []api.Row{r1, r2}},
	} {
		if got := merge.Rows(x.most, x.lists...); !slices.Equal(got, x.want) {
			t.Errorf("Rows(%d, %v): %v; want %v", x.most, x.lists, got, x.want)
		}
	}
}

// P804: of any lists that rise, or stay.
func TestRowsAny(t *testing.T) {
	r := rand.New(rand.NewPCG(4, 4))
	for range 3000 {
		lists := anyRows(r, r.IntN(12), 1+r.IntN(12), someCells(r, 1+r.IntN(30)))
		n := len(slices.Concat(lists...))
		for _, most := range []int{n - 1, n, n + 1, r.IntN(n + 1), 1, math.MaxInt} {
			wantRows(t, most, lists...)
		}
	}
}

// P804: of many lists, and of long ones.
func TestRowsMany(t *testing.T) {
	r := rand.New(rand.NewPCG(5, 5))
	for _, x := range []struct{ lists, most int }{{1000, 5}, {16, 5000}, {2, 20000}, {1, 20000}} {
		lists := anyRows(r, x.lists, x.most, someCells(r, 3000))
		wantRows(t, math.MaxInt, lists...)
		wantRows(t, 256, lists...)
	}
}

// wantLists asks for what stands in lists, by a map.
func wantLists[K cmp.Ordered](t *testing.T, lists ...[]K) int {
	t.Helper()
	there := map[K]bool{}
	var want []K
	for _, k := range slices.Concat(lists...) {
		if !there[k] {
			want = append(want, k)
		}
		there[k] = true
	}
	slices.Sort(want)
	if got := merge.Lists(lists...); !slices.Equal(got, want) {
		t.Errorf("Lists(%v): %v; want %v", lists, got, want)
	}
	return len(want)
}

// P805: the chapter's example, and the edges.
func TestListsExamples(t *testing.T) {
	if got := merge.Lists([]int{1, 3, 3}, []int{2, 3}); !slices.Equal(got, []int{1, 2, 3}) {
		t.Errorf("%v; want 1, 2, 3", got)
	}
	if got := merge.Lists[int](); len(got) != 0 {
		t.Errorf("%v of no lists", got)
	}
	if got := merge.Lists(nil, []string{}, nil); len(got) != 0 {
		t.Errorf("%v of empty lists", got)
	}
	wantLists(t, []int{0}, []int{0}, nil, []int{0, 0, 0})
	wantLists(t, []int{math.MinInt, 0, math.MaxInt}, []int{math.MinInt, math.MaxInt})
	wantLists(t, []uint8{0, 255}, []uint8{0, 1, 254}, []uint8{255, 255})
	wantLists(t, []int8{-128, 0, 127}, []int8{-1, 0, 1})
	wantLists(t, []uint64{0, 1 << 63, math.MaxUint64}, []uint64{1<<63 - 1})
	wantLists(t, []string{"", "a", "b"}, []string{"a\x00", "aa"}, []string{"", "\xff"})
	wantLists(t, []float64{math.Inf(-1), -0.5, 0, 2}, []float64{-2, -0.5, 0.25, math.Inf(1)})
	wantLists(t, []float32{1, 2}, []float32{1.5, 2})
	wantLists(t, []api.Errno{api.ErrCut, api.ErrTime}, []api.Errno{api.OK, api.ErrTime})
}

// P805: the two noughts of floats are one.
func TestListsNoughts(t *testing.T) {
	minus := math.Copysign(0, -1)
	for _, got := range [][]float64{merge.Lists([]float64{minus}, []float64{0}), merge.Lists([]float64{0}, []float64{minus, minus, 0})} {
		if len(got) != 1 || got[0] != 0 {
			t.Errorf("%v; want one 0", got)
		}
	}
}

// P805: of any lists that rise, or stay.
func TestListsAny(t *testing.T) {
	r := rand.New(rand.NewPCG(6, 6))
	keys, items := 0, 0
	for range 4000 {
		numbers, texts := make([][]int, r.IntN(9)), make([][]string, r.IntN(9))
		for i := range numbers {
			for range r.IntN(12) {
				numbers[i] = append(numbers[i], r.IntN(24)-12)
			}
			slices.Sort(numbers[i])
			items += len(numbers[i])
		}
		for i := range texts {
			for range r.IntN(12) {
				texts[i] = append(texts[i], anyKey(r, 3))
			}
			slices.Sort(texts[i])
		}
		keys += wantLists(t, numbers...)
		wantLists(t, texts...)
	}
	if keys < 10000 || 2*items < 3*keys {
		t.Errorf("%d keys of %d: this tests too little", keys, items)
	}
}
