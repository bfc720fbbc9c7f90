package wire_test

import (
	"bytes"
	"math"
	"strings"
	"testing"

	"spate/wire"
)

func wantLaid(t *testing.T, w *wire.Writer, want ...byte) {
	t.Helper()
	if b := w.Bytes(); !bytes.Equal(b, want) {
		t.Errorf("laid %v; want %v", b, want)
	}
}

// P101: the examples, and a number below 0 as 0.
func TestWriterNum(t *testing.T) {
	for _, c := range []struct {
		n    int
		want []byte
	}{
		{0, []byte{0}},
		{1, []byte{1}},
		{127, []byte{127}},
		{128, []byte{128, 1}},
		{300, []byte{172, 2}},
		{16383, []byte{255, 127}},
		{16384, []byte{128, 128, 1}},
		{math.MaxInt64, []byte{255, 255, 255, 255, 255, 255, 255, 255, 127}},
		{-1, []byte{0}},
		{math.MinInt64, []byte{0}},
	} {
		w := &wire.Writer{}
		w.Num(c.n)
		wantLaid(t, w, c.want...)
	}
}

func TestWriterInt(t *testing.T) {
	nines := bytes.Repeat([]byte{255}, 9)
	for _, c := range []struct {
		n    int64
		want []byte
	}{
		{0, []byte{0}},
		{-1, []byte{1}},
		{1, []byte{2}},
		{-64, []byte{127}},
		{64, []byte{128, 1}},
		{-65, []byte{129, 1}},
		{math.MinInt64, append(bytes.Clone(nines), 1)},
		{math.MaxInt64, append([]byte{254}, append(bytes.Clone(nines[:8]), 1)...)},
	} {
		w := &wire.Writer{}
		w.Int(c.n)
		wantLaid(t, w, c.want...)
	}
}

// P101: as few bytes as can be, at each bound where one more is needed.
func TestWriterLengths(t *testing.T) {
	for k := 1; k <= 8; k++ {
		bound := 1 << (7 * k)
		for n, want := range map[int]int{bound - 1: k, bound: k + 1} {
			w := &wire.Writer{}
			w.Num(n)
			if len(w.Bytes()) != want {
				t.Errorf("Num(%d): %d bytes; want %d", n, len(w.Bytes()), want)
			}
		}
		half := int64(bound / 2)
		for n, want := range map[int64]int{half - 1: k, -half: k, half: k + 1, -half - 1: k + 1} {
			w := &wire.Writer{}
			w.Int(n)
			if len(w.Bytes()) != want {
				t.Errorf("Int(%d): %d bytes; want %d", n, len(w.Bytes()), want)
			}
		}
	}
	for n, want := range map[int64]int{1<<62 - 1: 9, -1 << 62: 9, 1 << 62: 10, -1<<62 - 1: 10} {
		w := &wire.Writer{}
		w.Int(n)
		if len(w.Bytes()) != want {
			t.Errorf("Int(%d): %d bytes; want %d", n, len(w.Bytes()), want)
		}
	}
}

func TestWriterText(t *testing.T) {
	w := &wire.Writer{}
	w.Text("ab")
	wantLaid(t, w, 2, 97, 98)
	w.Text("")
	w.Text("\x00\xff")
	w.Num(128)
	w.Int(-1)
	wantLaid(t, w, 2, 97, 98, 0, 2, 0, 255, 128, 1, 1)

	long := strings.Repeat("é", 100)
	w = &wire.Writer{}
	w.Text(long)
	wantLaid(t, w, append([]byte{200, 1}, long...)...)
}

// P101: the zero value is a Writer with nothing in it. P7: Writers do not share.
func TestWriterZero(t *testing.T) {
	var a, b wire.Writer
	wantLaid(t, &a)
	a.Num(7)
	wantLaid(t, &a, 7)
	wantLaid(t, &b)
}

// P2: what Bytes answers is new memory, its spare room too.
func TestWriterBytesIsNew(t *testing.T) {
	w := &wire.Writer{}
	w.Text("abc")
	first, second := w.Bytes(), w.Bytes()
	spoil(first)
	wantLaid(t, w, 3, 97, 98, 99)
	w.Num(5)
	if !bytes.Equal(second, []byte{3, 97, 98, 99}) {
		t.Errorf("an earlier answer changed: %v", second)
	}
	spoil(second)
	wantLaid(t, w, 3, 97, 98, 99, 5)
}

// spoil writes over a list and its spare room.
func spoil(b []byte) {
	b = b[:cap(b)]
	for i := range b {
		b[i] = 0xEE
	}
}
