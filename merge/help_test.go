package merge_test

import (
	"fmt"
	"iter"
	"math"
	"math/big"
	"math/rand/v2"
	"regexp"
	"slices"
	"strings"
	"testing"

	"spate/api"
	"spate/merge"
)

// plainCompare orders cells by View, then Key, then Start, as W3 says it.
func plainCompare(a, b api.Cell) int {
	switch {
	case a.View < b.View:
		return -1
	case a.View > b.View:
		return 1
	}
	for i := range max(len(a.Key), len(b.Key)) {
		switch {
		case i == len(a.Key) || i < len(b.Key) && a.Key[i] < b.Key[i]:
			return -1
		case i == len(b.Key) || a.Key[i] > b.Key[i]:
			return 1
		}
	}
	return big.NewInt(a.Start).Cmp(big.NewInt(b.Start))
}

// plainWrong is the first error of a cell that has no text.
func plainWrong(c api.Cell) api.Errno {
	switch {
	case !slices.Contains([]int{0, 1, 2, 3, 4}, c.View):
		return api.ErrView
	case len(c.Key) > 32:
		return api.ErrKey
	case c.Start < -1<<61 || c.Start > 1<<61:
		return api.ErrTime
	}
	return api.OK
}

// plainText is the text of any cell whose View is a byte, also of one that has none.
func plainText(c api.Cell) string {
	start := big.NewInt(c.Start)
	start.Add(start, new(big.Int).Lsh(big.NewInt(1), 63))
	eight := start.FillBytes(make([]byte, 8))
	return string([]byte{byte(c.View)}) + strings.ReplaceAll(c.Key, "\x00", "\x00\xff") + "\x00\x01" + string(eight)
}

// The forms of texts, each byte a rune of its own.
var (
	wholeForm = regexp.MustCompile(`(?s)^(.)((?:[^\x00]|\x00ÿ)*)\x00\x01(.{8})$`)
	badForm   = regexp.MustCompile(`(?s)^.(?:[^\x00]|\x00ÿ)*\x00[^\x01ÿ]`)
	tailForm  = regexp.MustCompile(`(?s)^.(?:[^\x00]|\x00ÿ)*\x00\x01.{9}`)
)

func runesOf(bytes string) string {
	var l []rune
	for _, b := range []byte(bytes) {
		l = append(l, rune(b))
	}
	return string(l)
}

func bytesOf(runes string) string {
	var l []byte
	for _, r := range runes {
		l = append(l, byte(r))
	}
	return string(l)
}

// plainCell is a text's cell, by the forms of texts.
func plainCell(text string) (api.Cell, api.Errno) {
	text = runesOf(text)
	parts := wholeForm.FindStringSubmatch(text)
	switch {
	case parts == nil && badForm.MatchString(text):
		return api.Cell{}, api.ErrForm
	case parts == nil && tailForm.MatchString(text):
		return api.Cell{}, api.ErrTail
	case parts == nil:
		return api.Cell{}, api.ErrCut
	}
	start := new(big.Int).SetBytes([]byte(bytesOf(parts[3])))
	start.Sub(start, new(big.Int).Lsh(big.NewInt(1), 63))
	key := strings.ReplaceAll(bytesOf(parts[2]), "\x00\xff", "\x00")
	c := api.Cell{View: int(bytesOf(parts[1])[0]), Key: key, Start: start.Int64()}
	if errno := plainWrong(c); errno != api.OK {
		return api.Cell{}, errno
	}
	return c, api.OK
}

// wantKey asks for a cell's text, and for its cell again, if it has one.
func wantKey(t *testing.T, c api.Cell) {
	t.Helper()
	text, want := plainText(c), plainWrong(c)
	if want != api.OK {
		text = ""
	}
	if s, errno := merge.Key(c); s != text || errno != want {
		t.Errorf("Key(%v): %v, %v; want %v, %v", c, []byte(s), errno, []byte(text), want)
	}
	if want == api.OK {
		wantCell(t, text)
	}
}

// wantCell asks for a text's cell, and for its text again, if it is one's.
func wantCell(t *testing.T, text string) api.Errno {
	t.Helper()
	c, want := plainCell(text)
	if got, errno := merge.Cell(text); got != c || errno != want {
		t.Errorf("Cell(%v): %v, %v; want %v, %v", []byte(text), got, errno, c, want)
	}
	if want != api.OK {
		return want
	}
	if s, errno := merge.Key(c); s != text || errno != api.OK {
		t.Errorf("Key(%v): %v, %v; want %v", c, []byte(s), errno, []byte(text))
	}
	return want
}

// Numbers and texts near the edges, and past them.
func edgeViews() []int {
	return []int{math.MinInt, -256, -1, 0, 1, 3, 4, 5, 255, 256, 257, math.MaxInt}
}

func edgeKeys() []string {
	return []string{"", "\x00", "\x00\x00", "\x00\x01", "\x00\xff", "\x01", "a", "a\x00", "a\x00b", "a\x01", "aa", "b", "\xff", "\xff\xff",
		strings.Repeat("k", 31), strings.Repeat("k", 32), strings.Repeat("\x00", 32), strings.Repeat("\xff", 32), strings.Repeat("k", 33), strings.Repeat("\x00", 33), strings.Repeat("k", 1000)}
}

func edgeStarts() []int64 {
	const most = 1 << 61
	return []int64{math.MinInt64, -most - 1, -most, -most + 1, -256, -1, 0, 1, 255, 256, most - 1, most, most + 1, math.MaxInt64}
}

func edgeCells() []api.Cell {
	var l []api.Cell
	for _, view := range edgeViews() {
		for _, key := range edgeKeys() {
			for _, start := range edgeStarts() {
				l = append(l, api.Cell{View: view, Key: key, Start: start})
			}
		}
	}
	return l
}

// anyKey has few kinds of bytes, so that keys often are alike, or fronts of one another.
func anyKey(r *rand.Rand, most int) string {
	b := make([]byte, r.IntN(most+1))
	for i := range b {
		b[i] = []byte{0, 0, 1, 'a', 254, 255}[r.IntN(6)]
	}
	return string(b)
}

// anyCell has a text.
func anyCell(r *rand.Rand) api.Cell {
	starts := []int64{-1 << 61, -300, -1, 0, 1, 300, 1 << 61, r.Int64N(1 << 61), -r.Int64N(1 << 61)}
	return api.Cell{View: r.IntN(5), Key: anyKey(r, []int{2, 2, 2, 32}[r.IntN(4)]), Start: starts[r.IntN(len(starts))]}
}

// anyRows are lists that rise, or stay; the Counts of rows tell where they were handed in.
func anyRows(r *rand.Rand, lists, most int, cells []api.Cell) [][]api.Row {
	all := make([][]api.Row, lists)
	n := int64(0)
	for i := range all {
		var some []api.Cell
		for range r.IntN(most + 1) {
			some = append(some, cells[r.IntN(len(cells))])
		}
		slices.SortFunc(some, plainCompare)
		for _, c := range some {
			n++
			all[i] = append(all[i], api.Row{Cell: c, Agg: api.Agg{Count: n, Sum: -n, Min: r.Int64(), Max: int64(i)}})
		}
	}
	return all
}

// plainRows sorts all rows anew, like ones as they were handed in.
func plainRows(most int, lists ...[]api.Row) []api.Row {
	all := slices.Concat(lists...)
	slices.SortStableFunc(all, func(a, b api.Row) int { return plainCompare(a.Cell, b.Cell) })
	return all[:max(0, min(most, len(all)))]
}

func wantRows(t *testing.T, most int, lists ...[]api.Row) {
	t.Helper()
	want := plainRows(most, lists...)
	if got := merge.Rows(most, lists...); !slices.Equal(got, want) {
		t.Errorf("Rows(%d, %v): %v; want %v", most, lists, got, want)
	}
}

// someCells are so many, in no order, some of them alike.
func someCells(r *rand.Rand, n int) []api.Cell {
	var l []api.Cell
	for range n {
		l = append(l, anyCell(r))
	}
	return l
}

func newRow(key string, n int64) api.Row {
	return api.Row{Cell: api.Cell{Key: key}, Agg: api.Agg{Count: n}}
}

// two is a pair of a sequence.
type two struct {
	key   int
	value string
}

// watched is a sequence that tells how it is gone over.
type watched struct {
	pairs []two
	more  bool // behind its pairs it goes on for ever
	begun int  // how often it was begun
	ended int  // how often it came to its end, or was left
	left  int  // how often it was left
	given int  // pairs, in all
}

func (w *watched) seq() iter.Seq2[int, string] {
	return func(yield func(int, string) bool) {
		w.begun++
		defer func() { w.ended++ }()
		for i := 0; i < len(w.pairs) || w.more; i++ {
			w.given++
			p := w.pairAt(i)
			if !yield(p.key, p.value) {
				w.left++
				return
			}
		}
	}
}

func (w *watched) pairAt(i int) two {
	if i < len(w.pairs) {
		return w.pairs[i]
	}
	last := 0
	if n := len(w.pairs); n > 0 {
		last = w.pairs[n-1].key
	}
	return two{last + 1 + i - len(w.pairs), fmt.Sprint("more", i)}
}

// below counts its pairs with keys below that.
func (w *watched) below(key int) int {
	n := 0
	for n < len(w.pairs) || w.more {
		if w.pairAt(n).key >= key {
			break
		}
		n++
	}
	return n
}

// anyPairs rise, in steps of 1 to gap.
func anyPairs(r *rand.Rand, name string, most, gap int) []two {
	var l []two
	key := -r.IntN(gap + 1)
	for i := range r.IntN(most + 1) {
		l = append(l, two{key, fmt.Sprint(name, i)})
		key += 1 + r.IntN(gap)
	}
	return l
}

// plainSeq merges by a map in which a's pairs are laid over b's.
func plainSeq(a, b []two) []two {
	values := map[int]string{}
	for _, p := range slices.Concat(b, a) {
		values[p.key] = p.value
	}
	var l []two
	for key, value := range values {
		l = append(l, two{key, value})
	}
	slices.SortFunc(l, func(x, y two) int { return x.key - y.key })
	return l
}

// collect takes so many pairs at most, and leaves then.
func collect(seq iter.Seq2[int, string], most int) []two {
	var l []two
	if most < 1 {
		return l
	}
	for key, value := range seq {
		l = append(l, two{key, value})
		if len(l) == most {
			break
		}
	}
	return l
}
