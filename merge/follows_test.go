package merge_test

import (
	"math"
	"math/rand/v2"
	"slices"
	"strings"
	"testing"

	"spate/api"
	"spate/merge"
)

// P807: texts compare as cells do, of any two that have one.
func TestTextsCompareAsCells(t *testing.T) {
	r := rand.New(rand.NewPCG(11, 11))
	var edges []api.Cell
	for _, c := range edgeCells() {
		if plainWrong(c) == api.OK {
			edges = append(edges, c)
		}
	}
	count := map[int]int{}
	for range 200000 {
		a, b := anyCell(r), anyCell(r)
		if r.IntN(2) == 0 {
			a = edges[r.IntN(len(edges))]
		}
		if r.IntN(2) == 0 {
			b = edges[r.IntN(len(edges))]
		}
		if r.IntN(2) == 0 {
			b.View = a.View
		}
		if r.IntN(2) == 0 {
			b.Key = a.Key
		}
		one, errno := merge.Key(a)
		other, errno2 := merge.Key(b)
		if errno != api.OK || errno2 != api.OK {
			t.Fatalf("Key of %v, %v: %v, %v", a, b, errno, errno2)
		}
		got := merge.Compare(a, b)
		count[got]++
		if want := strings.Compare(one, other); got != want || got != plainCompare(a, b) {
			t.Fatalf("Compare(%v, %v): %d; of texts: %d", a, b, got, want)
		}
	}
	if count[0] < 1000 || count[-1] < 50000 || count[1] < 50000 {
		t.Errorf("%v: this tests too little", count)
	}
}

// P807: Cell of Key is the cell, Key of Cell the text.
func TestThereAndBack(t *testing.T) {
	r := rand.New(rand.NewPCG(12, 12))
	for range 50000 {
		c := anyCell(r)
		text, errno := merge.Key(c)
		if back, errno2 := merge.Cell(text); errno != api.OK || errno2 != api.OK || back != c {
			t.Fatalf("%v: %v, %v, %v", c, back, errno, errno2)
		}
		bytes := []byte(text)
		bytes[r.IntN(len(bytes))] = byte(r.Uint32())
		if c, errno = merge.Cell(string(bytes)); errno != api.OK {
			continue
		}
		if back, errno := merge.Key(c); errno != api.OK || back != string(bytes) {
			t.Fatalf("%v: %v, %v", bytes, []byte(back), errno)
		}
	}
}

// apartRows are lists of which no two have a like cell.
func apartRows(r *rand.Rand, lists int) [][]api.Row {
	all := make([][]api.Row, lists)
	n := int64(0)
	for _, c := range plainRows(math.MaxInt, anyRows(r, 1, 60, someCells(r, 60))...) {
		i := int(plainText(c.Cell)[1])*7 + len(c.Key) + int(c.Start&3)
		n++
		c.Count = n
		all[i%lists] = append(all[i%lists], c)
	}
	return all
}

// P808: Rows does not hang on the order of lists without like cells.
func TestRowsInAnyOrder(t *testing.T) {
	r := rand.New(rand.NewPCG(13, 13))
	for range 1000 {
		lists := apartRows(r, 2+r.IntN(6))
		most := r.IntN(70)
		want := merge.Rows(most, lists...)
		r.Shuffle(len(lists), func(i, j int) { lists[i], lists[j] = lists[j], lists[i] })
		if got := merge.Rows(most, lists...); !slices.Equal(got, want) {
			t.Fatalf("%v; want %v", got, want)
		}
	}
}

// P808: Lists does not hang on the order of lists.
func TestListsInAnyOrder(t *testing.T) {
	r := rand.New(rand.NewPCG(14, 14))
	for range 1000 {
		lists := make([][]string, 1+r.IntN(8))
		for i := range lists {
			for range r.IntN(12) {
				lists[i] = append(lists[i], anyKey(r, 3))
			}
			slices.Sort(lists[i])
		}
		want := merge.Lists(lists...)
		r.Shuffle(len(lists), func(i, j int) { lists[i], lists[j] = lists[j], lists[i] })
		if got := merge.Lists(lists...); !slices.Equal(got, want) {
			t.Fatalf("%q; want %q", got, want)
		}
	}
}

// P808: merging some first, and then what they are with the others, is the same; also cut to the first most, and of like cells, if it is a front of the lists that is merged first.
func TestMergingSomeFirst(t *testing.T) {
	r := rand.New(rand.NewPCG(15, 15))
	for range 2000 {
		lists := anyRows(r, 1+r.IntN(7), 12, someCells(r, 1+r.IntN(20)))
		cut := r.IntN(len(lists) + 1)
		most := r.IntN(40)
		want := merge.Rows(most, lists...)
		first := merge.Rows(most, lists[:cut]...)
		if got := merge.Rows(most, append([][]api.Row{first}, lists[cut:]...)...); !slices.Equal(got, want) {
			t.Fatalf("%v; want %v", got, want)
		}
		last := merge.Rows(math.MaxInt, lists[cut:]...)
		if got := merge.Rows(most, append(slices.Clone(lists[:cut]), last)...); !slices.Equal(got, want) {
			t.Fatalf("%v; want %v", got, want)
		}
		keys := make([][]int64, len(lists))
		for i, l := range lists {
			for _, row := range l {
				keys[i] = append(keys[i], row.Start)
			}
			slices.Sort(keys[i])
		}
		whole := merge.Lists(keys...)
		some := merge.Lists(keys[:cut]...)
		if got := merge.Lists(append(slices.Clone(keys[cut:]), some)...); !slices.Equal(got, whole) {
			t.Fatalf("%v; want %v", got, whole)
		}
	}
}

// P1, P8: lists that do not rise are merged to an end, and nothing panics; nor are they changed (P2).
func TestListsNotRising(t *testing.T) {
	r := rand.New(rand.NewPCG(16, 16))
	edges := edgeCells()
	for range 1000 {
		rows, floats := make([][]api.Row, r.IntN(8)), make([][]float64, r.IntN(8))
		for i := range rows {
			for range r.IntN(8) {
				rows[i] = append(rows[i], api.Row{Cell: edges[r.IntN(len(edges))]})
			}
		}
		for i := range floats {
			for range r.IntN(8) {
				floats[i] = append(floats[i], []float64{math.NaN(), 0, 1, -1, math.Inf(1)}[r.IntN(5)])
			}
		}
		before := slices.Concat(rows...)
		if got := merge.Rows(math.MaxInt, rows...); len(got) > len(before) {
			t.Fatalf("%d rows of %d", len(got), len(before))
		}
		merge.Lists(floats...)
		if !slices.Equal(slices.Concat(rows...), before) {
			t.Fatalf("what was handed in is changed")
		}
	}
}

// P2: what is handed in is not changed, its spare room neither; an answer is new memory.
func TestWhatIsHandedIn(t *testing.T) {
	r := rand.New(rand.NewPCG(17, 17))
	for range 500 {
		lists := anyRows(r, 1+r.IntN(5), 8, someCells(r, 10))
		keys := make([][]int64, len(lists))
		var whole [][]api.Row
		for i := range lists {
			whole = append(whole, slices.Clone(lists[i]))
			lists[i] = lists[i][:r.IntN(len(lists[i])+1)]
			for _, row := range whole[i] {
				keys[i] = append(keys[i], row.Count)
			}
		}
		rows, many := merge.Rows(99, lists...), merge.Lists(keys...)
		again, manyAgain := slices.Clone(rows), slices.Clone(many)
		clear(merge.Rows(99, lists...))
		other, manyOther := merge.Rows(99, lists...), merge.Lists(keys...)
		clear(other[:cap(other)])
		clear(manyOther[:cap(manyOther)])
		if !slices.Equal(rows, again) || !slices.Equal(many, manyAgain) {
			t.Fatalf("two answers share memory")
		}
		for i := range lists {
			if n := len(whole[i]); !slices.Equal(lists[i][:n:n], whole[i]) {
				t.Fatalf("%v; was %v", lists[i][:n:n], whole[i])
			}
			if n := len(keys[i]); n > 0 && keys[i][0] != whole[i][0].Count {
				t.Fatalf("%v is changed", keys[i])
			}
		}
		clear(rows[:cap(rows)])
		for i := range lists {
			if n := len(whole[i]); !slices.Equal(lists[i][:n:n], whole[i]) {
				t.Fatalf("an answer shares memory with %v", whole[i])
			}
		}
	}
}

// P2: of one list alone, too, an answer is new.
func TestOneListIsNew(t *testing.T) {
	rows, keys := []api.Row{newRow("a", 1), newRow("b", 2)}, []int{1, 2, 3}
	clear(merge.Rows(9, rows))
	clear(merge.Rows(2, nil, rows))
	clear(merge.Lists(keys))
	clear(merge.Lists(nil, keys, nil))
	if rows[0] != newRow("a", 1) || rows[1] != newRow("b", 2) || !slices.Equal(keys, []int{1, 2, 3}) {
		t.Errorf("%v, %v", rows, keys)
	}
	lists := [][]int{{1}, nil, {1, 2}}
	merge.Lists(lists...)
	if len(lists[0]) != 1 || lists[1] != nil || len(lists[2]) != 2 {
		t.Errorf("%v", lists)
	}
}

// P3: the same calls answer the same.
func TestTwiceTheSame(t *testing.T) {
	r := rand.New(rand.NewPCG(18, 18))
	for range 200 {
		lists := anyRows(r, 8, 8, someCells(r, 6))
		a, b := &watched{pairs: anyPairs(r, "a", 9, 3)}, &watched{pairs: anyPairs(r, "b", 9, 3)}
		want, pairs := merge.Rows(30, lists...), collect(merge.Seq(a.seq(), b.seq()), 99)
		for range 5 {
			if got := merge.Rows(30, lists...); !slices.Equal(got, want) {
				t.Fatalf("%v; was %v", got, want)
			}
			if got := collect(merge.Seq(a.seq(), b.seq()), 99); !slices.Equal(got, pairs) {
				t.Fatalf("%v; was %v", got, pairs)
			}
		}
	}
}
