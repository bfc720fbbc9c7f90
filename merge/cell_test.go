package merge_test

import (
	"math/rand/v2"
	"strings"
	"testing"

	"spate/api"
	"spate/merge"
)

// P801: Compare tells -1, 0, 1, as cells are ordered; also of such as may not be.
func TestCompareExamples(t *testing.T) {
	for _, x := range []struct {
		a, b api.Cell
		want int
	}{
		{api.Cell{Key: "a", Start: 5}, api.Cell{Key: "a\x00"}, -1},
		{api.Cell{View: 1, Key: "a"}, api.Cell{Key: "b"}, 1},
		{api.Cell{}, api.Cell{}, 0},
		{api.Cell{Key: "a", Start: -1}, api.Cell{Key: "a", Start: 1}, -1},
		{api.Cell{Key: "\x7f"}, api.Cell{Key: "\x80"}, -1},
		{api.Cell{View: -1}, api.Cell{View: 256}, -1},
		{api.Cell{Start: -1 << 63}, api.Cell{Start: 1<<63 - 1}, -1},
		{api.Cell{Key: strings.Repeat("k", 100)}, api.Cell{Key: strings.Repeat("k", 99) + "l"}, -1},
	} {
		if got := merge.Compare(x.a, x.b); got != x.want {
			t.Errorf("Compare(%v, %v): %d; want %d", x.a, x.b, got, x.want)
		}
		if got := merge.Compare(x.b, x.a); got != -x.want {
			t.Errorf("Compare(%v, %v): %d; want %d", x.b, x.a, got, -x.want)
		}
	}
}

// P801: so it is of any two.
func TestCompareAny(t *testing.T) {
	r := rand.New(rand.NewPCG(1, 1))
	edges := edgeCells()
	count := map[int]int{}
	for range 300000 {
		a, b := edges[r.IntN(len(edges))], edges[r.IntN(len(edges))]
		if r.IntN(2) == 0 {
			b.View = a.View
		}
		if r.IntN(2) == 0 {
			b.Key = a.Key
		}
		want := plainCompare(a, b)
		count[want]++
		if got := merge.Compare(a, b); got != want {
			t.Fatalf("Compare(%v, %v): %d; want %d", a, b, got, want)
		}
	}
	if count[0] < 5000 || count[-1] < 100000 || count[1] < 100000 {
		t.Errorf("%v: this tests too little", count)
	}
}

// P802: the texts of the chapter's examples, and of the edges.
func TestKeyExamples(t *testing.T) {
	for _, x := range []struct {
		c     api.Cell
		want  []byte
		errno api.Errno
	}{
		{api.Cell{Key: "a"}, []byte{0, 97, 0, 1, 128, 0, 0, 0, 0, 0, 0, 0}, api.OK},
		{api.Cell{View: 3, Key: "\x00", Start: -1}, []byte{3, 0, 255, 0, 1, 127, 255, 255, 255, 255, 255, 255, 255}, api.OK},
		{api.Cell{View: 4}, []byte{4, 0, 1, 128, 0, 0, 0, 0, 0, 0, 0}, api.OK},
		{api.Cell{Start: 1 << 61}, []byte{0, 0, 1, 160, 0, 0, 0, 0, 0, 0, 0}, api.OK},
		{api.Cell{Start: -1 << 61}, []byte{0, 0, 1, 96, 0, 0, 0, 0, 0, 0, 0}, api.OK},
		{api.Cell{Key: "a\x00\xffb", Start: 0x0102030405060708}, []byte{0, 97, 0, 255, 255, 98, 0, 1, 129, 2, 3, 4, 5, 6, 7, 8}, api.OK},
		{api.Cell{View: 5}, nil, api.ErrView},
		{api.Cell{View: -1}, nil, api.ErrView},
		{api.Cell{Key: strings.Repeat("k", 33)}, nil, api.ErrKey},
		{api.Cell{Start: 1<<61 + 1}, nil, api.ErrTime},
		{api.Cell{Start: -1<<61 - 1}, nil, api.ErrTime},
		{api.Cell{View: 5, Key: strings.Repeat("k", 33), Start: 1 << 62}, nil, api.ErrView},
		{api.Cell{View: 4, Key: strings.Repeat("k", 33), Start: 1 << 62}, nil, api.ErrKey},
	} {
		if s, errno := merge.Key(x.c); s != string(x.want) || errno != x.errno {
			t.Errorf("Key(%v): %v, %v; want %v, %v", x.c, []byte(s), errno, x.want, x.errno)
		}
	}
}

// P802, P803, P4: of all cells near the edges, and past them.
func TestKeyEdges(t *testing.T) {
	for _, c := range edgeCells() {
		wantKey(t, c)
	}
}

// P802, P803: of any cells; each byte stands for itself.
func TestKeyAny(t *testing.T) {
	r := rand.New(rand.NewPCG(2, 2))
	for range 20000 {
		wantKey(t, anyCell(r))
	}
	for b := range 256 {
		wantKey(t, api.Cell{Key: string([]byte{byte(b)}), Start: int64(b) << 53})
		wantKey(t, api.Cell{Key: string([]byte{'a', byte(b), 0}), Start: int64(b)})
	}
}

// P803: the chapter's examples, and the first error from the left.
func TestCellExamples(t *testing.T) {
	const a = "\x00a\x00\x01\x80\x00\x00\x00\x00\x00\x00\x00"
	for _, x := range []struct {
		text string
		want api.Errno
	}{
		{"", api.ErrCut},
		{"\x00\x00\x02", api.ErrForm},
		{a + "x", api.ErrTail},
		{"\x05" + a[1:], api.ErrView},
		{"\xff" + a[1:], api.ErrView},
		{a, api.OK},
		{"\x04" + a[1:], api.OK},
		{"\x00", api.ErrCut},
		{"\x00a", api.ErrCut},
		{"\x00a\x00", api.ErrCut},
		{"\x00a\x00\x01", api.ErrCut},
		{"\x00a\x00\xff", api.ErrCut},
		{"\x00a\x00\xff\x00", api.ErrCut},
		{a[:11], api.ErrCut},
		{"\x05", api.ErrCut},
		{"\x05a\x00\x00", api.ErrForm},
		{"\x05" + a[1:] + "x", api.ErrTail},
		{"\x00" + strings.Repeat("k", 32) + a[2:], api.OK},
		{"\x00" + strings.Repeat("k", 33) + a[2:], api.ErrKey},
		{"\x00" + strings.Repeat("\x00\xff", 32) + a[2:], api.OK},
		{"\x00" + strings.Repeat("\x00\xff", 33) + a[2:], api.ErrKey},
		{"\x00" + strings.Repeat("k", 33), api.ErrCut},
		{"\x00" + strings.Repeat("k", 33) + "\x00k", api.ErrForm},
		{"\x00" + strings.Repeat("k", 33) + a[2:] + "x", api.ErrTail},
		{"\x05" + strings.Repeat("k", 33) + a[2:], api.ErrView},
		{"\x00" + strings.Repeat("k", 33) + "\x00\x01" + strings.Repeat("\xff", 8), api.ErrKey},
		{"\x00a\x00\x01" + strings.Repeat("\xff", 8), api.ErrTime},
		{"\x00a\x00\x01" + strings.Repeat("\x00", 8), api.ErrTime},
		{"\x00a\x00\x01\xa0\x00\x00\x00\x00\x00\x00\x00", api.OK},
		{"\x00a\x00\x01\xa0\x00\x00\x00\x00\x00\x00\x01", api.ErrTime},
		{"\x00a\x00\x01\x60\x00\x00\x00\x00\x00\x00\x00", api.OK},
		{"\x00a\x00\x01\x5f\xff\xff\xff\xff\xff\xff\xff", api.ErrTime},
		{"\x00a\x00\x01" + strings.Repeat("\xff", 9), api.ErrTail},
		{"\x00a\x00\x01" + strings.Repeat("\xff", 7), api.ErrCut},
	} {
		if got := wantCell(t, x.text); got != x.want {
			t.Errorf("%v: %v; want %v", []byte(x.text), got, x.want)
		}
		if c, errno := merge.Cell(x.text); errno != x.want || errno != api.OK && c != (api.Cell{}) {
			t.Errorf("Cell(%v): %v, %v; want %v", []byte(x.text), c, errno, x.want)
		}
	}
}

// P803: of all short texts of the bytes that tell.
func TestCellShort(t *testing.T) {
	count := map[api.Errno]int{}
	var all func(text string, left int)
	all = func(text string, left int) {
		count[wantCell(t, text)]++
		count[wantCell(t, text+"\x00\x01\x701234567")]++
		if left == 0 {
			return
		}
		for _, b := range []string{"\x00", "\x01", "\x02", "\xfe", "\xff"} {
			all(text+b, left-1)
		}
	}
	all("", 5)
	if count[api.OK] < 500 || count[api.ErrCut] < 500 || count[api.ErrForm] < 500 || count[api.ErrView] < 500 {
		t.Errorf("%v: this tests too little", count)
	}
}

// P803: of texts that are a cell's but for some bytes.
func TestCellNearly(t *testing.T) {
	r := rand.New(rand.NewPCG(3, 3))
	count := map[api.Errno]int{}
	for range 100000 {
		c := anyCell(r)
		if r.IntN(10) == 0 {
			c.Key += strings.Repeat("k", r.IntN(33))
		}
		b := []byte(plainText(c))
		for range 1 + r.IntN(2) {
			at := r.IntN(len(b) + 1)
			one := []byte{0, 1, 2, 4, 5, 'a', 254, 255}[r.IntN(8)]
			switch r.IntN(3) {
			case 0:
				b = append(b[:at:at], append([]byte{one}, b[at:]...)...)
			case 1:
				b = append(b[:at:at], b[min(at+1, len(b)):]...)
			default:
				b = append(b[:at:at], append([]byte{one}, b[min(at+1, len(b)):]...)...)
			}
		}
		count[wantCell(t, string(b))]++
	}
	for _, errno := range []api.Errno{api.OK, api.ErrCut, api.ErrForm, api.ErrTail, api.ErrView, api.ErrKey, api.ErrTime} {
		if count[errno] < 100 {
			t.Errorf("%v: this tests too little", count)
		}
	}
}
