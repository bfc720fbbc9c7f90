package wire_test

import (
	"bytes"
	"errors"
	"math"
	"math/big"
	"testing"

	"spate/api"
	"spate/wire"
)

// wantFault asks for a fault, and that behind it every call answers nothing (P103).
func wantFault(t *testing.T, r *wire.Reader, e api.Errno, at int) {
	t.Helper()
	for range 2 {
		var got *wire.Error
		if err := r.Err(); !errors.As(err, &got) || got.Errno != e || got.At != at || !errors.Is(err, e) {
			t.Errorf("fault %v, %+v; want %v at %d", err, got, e, at)
		}
		if n, i, s, left := r.Num(math.MaxInt), r.Int(), r.Text(math.MaxInt), r.Left(); n != 0 || i != 0 || s != "" || left != 0 {
			t.Errorf("behind the fault: %d, %d, %q, %d left", n, i, s, left)
		}
		r.End()
		r.Fail(api.ErrKey, at+1)
	}
}

func wantNoFault(t *testing.T, r *wire.Reader, left int) {
	t.Helper()
	if r.Err() != nil || r.Left() != left {
		t.Errorf("fault %v, %d left; want none, %d left", r.Err(), r.Left(), left)
	}
}

func repeat(b byte, n int, behind ...byte) []byte {
	return append(bytes.Repeat([]byte{b}, n), behind...)
}

func TestReaderNum(t *testing.T) {
	for _, c := range []struct {
		b    []byte
		most int
		want int
	}{
		{[]byte{0}, 0, 0},
		{[]byte{5}, 5, 5},
		{[]byte{127}, 200, 127},
		{[]byte{128, 1}, 128, 128},
		{[]byte{172, 2}, 300, 300},
		{repeat(255, 8, 127), math.MaxInt64, math.MaxInt64},
		{repeat(128, 8, 1), math.MaxInt64, 1 << 56},
	} {
		r := wire.Read(append(bytes.Clone(c.b), 9))
		if n := r.Num(c.most); n != c.want {
			t.Errorf("%v: %d; want %d", c.b, n, c.want)
		}
		wantNoFault(t, r, 1)
	}
}

// P102: each fault of Num with its place; of several the first.
func TestReaderNumFaults(t *testing.T) {
	for _, c := range []struct {
		b    []byte
		most int
		e    api.Errno
		at   int
	}{
		{nil, 9, api.ErrCut, 0},
		{[]byte{}, -1, api.ErrCut, 0},
		{[]byte{128}, 9, api.ErrCut, 1},
		{[]byte{255}, 9, api.ErrCut, 1},
		{repeat(128, 8), 9, api.ErrCut, 8},
		{[]byte{128, 0}, 9, api.ErrForm, 0},
		{[]byte{255, 0}, 9, api.ErrForm, 0},
		{repeat(128, 8, 0), 9, api.ErrForm, 0},
		{repeat(128, 9), 9, api.ErrForm, 0},
		{repeat(128, 9, 1), math.MaxInt, api.ErrForm, 0},
		{repeat(255, 12), math.MaxInt, api.ErrForm, 0},
		{[]byte{5}, 4, api.ErrField, 0},
		{[]byte{0}, -1, api.ErrField, 0},
		{[]byte{0}, math.MinInt, api.ErrField, 0},
		{repeat(255, 8, 127), math.MaxInt - 1, api.ErrField, 0},
	} {
		r := wire.Read(c.b)
		if n := r.Num(c.most); n != 0 {
			t.Errorf("%v: %d beside a fault", c.b, n)
		}
		wantFault(t, r, c.e, c.at)

		// Behind another number the places move on by one.
		r = wire.Read(append([]byte{3}, c.b...))
		if n := r.Num(3); n != 3 {
			t.Errorf("%d ahead of the fault", n)
		}
		r.Num(c.most)
		wantFault(t, r, c.e, c.at+1)
	}
}

func TestReaderInt(t *testing.T) {
	for _, c := range []struct {
		b    []byte
		want int64
	}{
		{[]byte{0}, 0},
		{[]byte{1}, -1},
		{[]byte{2}, 1},
		{[]byte{127}, -64},
		{[]byte{128, 1}, 64},
		{repeat(255, 9, 1), math.MinInt64},
		{append([]byte{254}, repeat(255, 8, 1)...), math.MaxInt64},
		{repeat(128, 9, 1), 1 << 62},
		{repeat(255, 8, 127), -1 << 62},
	} {
		r := wire.Read(append(bytes.Clone(c.b), 9))
		if n := r.Int(); n != c.want {
			t.Errorf("%v: %d; want %d", c.b, n, c.want)
		}
		wantNoFault(t, r, 1)
	}
}

func TestReaderIntFaults(t *testing.T) {
	for _, c := range []struct {
		b  []byte
		e  api.Errno
		at int
	}{
		{nil, api.ErrCut, 0},
		{[]byte{128}, api.ErrCut, 1},
		{repeat(128, 9), api.ErrCut, 9},
		{repeat(255, 9), api.ErrCut, 9},
		{[]byte{128, 0}, api.ErrForm, 0},
		{repeat(255, 8, 0), api.ErrForm, 0},
		{repeat(255, 9, 0), api.ErrForm, 0},
		{repeat(255, 9, 2), api.ErrForm, 0},
		{repeat(128, 9, 3), api.ErrForm, 0},
		{repeat(128, 9, 127), api.ErrForm, 0},
		{repeat(128, 10), api.ErrForm, 0},
		{repeat(128, 9, 129), api.ErrForm, 0},
		{repeat(255, 10, 1), api.ErrForm, 0},
	} {
		r := wire.Read(c.b)
		if n := r.Int(); n != 0 {
			t.Errorf("%v: %d beside a fault", c.b, n)
		}
		wantFault(t, r, c.e, c.at)

		r = wire.Read(append([]byte{1, 1}, c.b...))
		r.Int()
		r.Int()
		r.Int()
		wantFault(t, r, c.e, c.at+2)
	}
}

func TestReaderText(t *testing.T) {
	r := wire.Read([]byte{2, 97, 98, 0, 3, 0, 255, 128, 0})
	for _, want := range []string{"ab", "", "\x00\xff\x80", ""} {
		if s := r.Text(len(want)); s != want {
			t.Errorf("%q; want %q", s, want)
		}
	}
	wantNoFault(t, r, 0)

	long := bytes.Repeat([]byte{7}, 200)
	r = wire.Read(append([]byte{200, 1}, long...))
	if s := r.Text(200); s != string(long) {
		t.Errorf("%q", s)
	}
	wantNoFault(t, r, 0)
}

func TestReaderTextFaults(t *testing.T) {
	for _, c := range []struct {
		b    []byte
		most int
		e    api.Errno
		at   int
	}{
		{nil, 9, api.ErrCut, 0},
		{[]byte{128}, 9, api.ErrCut, 1},
		{[]byte{128, 0, 1}, 9, api.ErrForm, 0},
		{repeat(128, 9, 1), 9, api.ErrForm, 0},
		{[]byte{2, 97, 98}, 1, api.ErrField, 0},
		{[]byte{2, 97}, 1, api.ErrField, 0},
		{[]byte{0}, -1, api.ErrField, 0},
		{[]byte{2, 97}, 9, api.ErrCut, 2},
		{[]byte{1}, 9, api.ErrCut, 1},
		{repeat(255, 8, 127, 1, 2), math.MaxInt, api.ErrCut, 11},
	} {
		r := wire.Read(c.b)
		if s := r.Text(c.most); s != "" {
			t.Errorf("%v: %q beside a fault", c.b, s)
		}
		wantFault(t, r, c.e, c.at)

		r = wire.Read(append([]byte{1, 97}, c.b...))
		r.Text(1)
		r.Text(c.most)
		wantFault(t, r, c.e, c.at+2)
	}
}

func TestReaderEnd(t *testing.T) {
	r := wire.Read([]byte{0, 7})
	r.Num(9)
	r.End()
	wantFault(t, r, api.ErrTail, 1)

	r = wire.Read([]byte{7})
	r.End()
	wantFault(t, r, api.ErrTail, 0)

	r = wire.Read([]byte{7})
	r.Num(9)
	r.End()
	r.End()
	wantNoFault(t, r, 0)
	r.Num(9) // End is no fault: what is asked behind it has one of its own
	wantFault(t, r, api.ErrCut, 1)
}

// P103: Fail lets a fault be the first one; OK is none; any number and place may be told.
func TestReaderFail(t *testing.T) {
	r := wire.Read([]byte{7, 8})
	r.Fail(api.OK, 4)
	wantNoFault(t, r, 2)
	if n := r.Num(9); n != 7 {
		t.Errorf("behind Fail(OK): %d", n)
	}
	r.Fail(api.ErrKind, 3)
	wantFault(t, r, api.ErrKind, 3)
	r.Fail(api.OK, 0)
	wantFault(t, r, api.ErrKind, 3)

	for _, e := range []api.Errno{-1, 1, 255, math.MaxInt, math.MinInt} {
		for _, at := range []int{math.MinInt, -1, 0, math.MaxInt - 1} {
			r := wire.Read(nil)
			r.Fail(e, at)
			wantFault(t, r, e, at)
		}
	}

	r = wire.Read(nil)
	r.Num(9)
	r.Fail(api.ErrKind, 3)
	wantFault(t, r, api.ErrCut, 0)
}

func TestReaderLeft(t *testing.T) {
	r := wire.Read([]byte{172, 2, 2, 97, 98, 127})
	wantNoFault(t, r, 6)
	if n := r.Num(300); n != 300 {
		t.Errorf("%d", n)
	}
	wantNoFault(t, r, 4)
	if s := r.Text(2); s != "ab" {
		t.Errorf("%q", s)
	}
	wantNoFault(t, r, 1)
	if n := r.Int(); n != -64 {
		t.Errorf("%d", n)
	}
	wantNoFault(t, r, 0)
	wantNoFault(t, wire.Read(nil), 0)
}

// P2: the bytes handed in are neither kept nor changed.
func TestReadKeepsNothing(t *testing.T) {
	room := []byte{1, 97, 2, 99, 99}
	b := room[:3]
	r := wire.Read(b)
	spoil(b)
	if s, n := r.Text(9), r.Num(9); s != "a" || n != 2 {
		t.Errorf("%q, %d: the caller's change shows", s, n)
	}
	wantNoFault(t, r, 0)
	if !bytes.Equal(room, repeat(0xEE, 5)) {
		t.Errorf("the caller's bytes changed: %v", room)
	}
}

// P7: each answer is an object that nobody else has.
func TestReadersShareNothing(t *testing.T) {
	b := []byte{1, 2}
	first, second := wire.Read(b), wire.Read(b)
	first.Num(0)
	wantFault(t, first, api.ErrField, 0)
	wantNoFault(t, second, 2)

	var e *wire.Error
	if !errors.As(first.Err(), &e) {
		t.Fatal("no *Error")
	}
	e.Errno, e.At = api.ErrTail, 9
	wantFault(t, first, api.ErrField, 0)
}

// formOf tells, straight from the chapter's words, what stands at the beginning of b: its length, or a fault.
func formOf(b []byte, longest int) (value *big.Int, length int, e api.Errno, at int) {
	last := 0
	for last < longest && last < len(b) && b[last] >= 128 {
		last++
	}
	if last == longest {
		return nil, 0, api.ErrForm, 0
	}
	if last == len(b) {
		return nil, 0, api.ErrCut, len(b)
	}
	value = new(big.Int)
	for i := last; i >= 0; i-- {
		value.Lsh(value, 7).Add(value, big.NewInt(int64(b[i]%128)))
	}
	few := 1
	for v := new(big.Int).Rsh(value, 7); v.Sign() > 0; v.Rsh(v, 7) {
		few++
	}
	if last+1 != few || last == 9 && b[last] != 1 {
		return nil, 0, api.ErrForm, 0
	}
	return value, last + 1, api.OK, 0
}

func checkForms(t *testing.T, b []byte) {
	t.Helper()
	for _, most := range []int{0, 1, 127, 128, 16384, math.MaxInt} {
		want, length, e, at := formOf(b, 9)
		if e == api.OK && want.Cmp(big.NewInt(int64(most))) > 0 {
			e, at = api.ErrField, 0
		}
		r := wire.Read(b)
		n := r.Num(most)
		if e != api.OK {
			wantFault(t, r, e, at)
			continue
		}
		wantNoFault(t, r, len(b)-length)
		if big.NewInt(int64(n)).Cmp(want) != 0 {
			t.Errorf("Num of %v: %d; want %v", b, n, want)
		}
	}
	want, length, e, at := formOf(b, 10)
	r := wire.Read(b)
	n := r.Int()
	if e != api.OK {
		wantFault(t, r, e, at)
		return
	}
	wantNoFault(t, r, len(b)-length)
	if twice := folded(n); twice.Cmp(want) != 0 {
		t.Errorf("Int of %v: %d; want what folds to %v", b, n, want)
	}
}

// folded tells 2n, or -2n - 1.
func folded(n int64) *big.Int {
	twice := new(big.Int).Lsh(big.NewInt(n), 1)
	if n < 0 {
		twice.Neg(twice).Sub(twice, big.NewInt(1))
	}
	return twice
}

// P102: all bytes of length at most 2, and many long ones, against the chapter's words.
func TestReaderForms(t *testing.T) {
	checkForms(t, nil)
	for i := range 256 {
		checkForms(t, []byte{byte(i)})
		for j := range 256 {
			checkForms(t, []byte{byte(i), byte(j)})
		}
	}
	lasts := []byte{0, 1, 2, 63, 64, 127, 128, 129, 255}
	for _, fill := range []byte{128, 129, 170, 255} {
		for n := range 13 {
			for _, x := range lasts {
				for _, y := range lasts {
					checkForms(t, repeat(fill, n, x, y))
				}
			}
		}
	}
}
