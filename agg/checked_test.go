package agg_test

import (
	"errors"
	"fmt"
	"math/big"
	"math/rand/v2"
	"strings"
	"testing"

	"spate/agg"
	"spate/api"
)

// P301, P4: ordinary numbers, the edges, and the chapter's example 1.
func TestCheckedByHand(t *testing.T) {
	for _, c := range []struct {
		f       func(a, b int64) (int64, error)
		op      byte
		a, b, n int64
		fits    bool
	}{
		{agg.Add, '+', 0, 0, 0, true},
		{agg.Add, '+', 3, -5, -2, true},
		{agg.Add, '+', 1 << 62, 1 << 62, 0, false},
		{agg.Add, '+', 1 << 62, 1<<62 - 1, most, true},
		{agg.Add, '+', -1 << 62, -1 << 62, least, true},
		{agg.Add, '+', -1 << 62, -1<<62 - 1, 0, false},
		{agg.Add, '+', most, 0, most, true},
		{agg.Add, '+', most, 1, 0, false},
		{agg.Add, '+', 1, most, 0, false},
		{agg.Add, '+', least, 0, least, true},
		{agg.Add, '+', least, -1, 0, false},
		{agg.Add, '+', least, most, -1, true},
		{agg.Add, '+', least, least, 0, false},
		{agg.Sub, '-', 3, -5, 8, true},
		{agg.Sub, '-', least, 1, 0, false},
		{agg.Sub, '-', least, 0, least, true},
		{agg.Sub, '-', least, least, 0, true},
		{agg.Sub, '-', 0, least, 0, false},
		{agg.Sub, '-', -1, least, most, true},
		{agg.Sub, '-', 0, most, -most, true},
		{agg.Sub, '-', -1, most, least, true},
		{agg.Sub, '-', -2, most, 0, false},
		{agg.Sub, '-', most, -1, 0, false},
		{agg.Mul, '*', 3, -5, -15, true},
		{agg.Mul, '*', -3, -5, 15, true},
		{agg.Mul, '*', least, -1, 0, false},
		{agg.Mul, '*', -1, least, 0, false},
		{agg.Mul, '*', least, 1, least, true},
		{agg.Mul, '*', most, -1, -most, true},
		{agg.Mul, '*', least, 0, 0, true},
		{agg.Mul, '*', 0, least, 0, true},
		{agg.Mul, '*', 1 << 32, 1 << 30, 1 << 62, true},
		{agg.Mul, '*', 1 << 32, 1 << 31, 0, false},
		{agg.Mul, '*', 1 << 32, -1 << 31, least, true},
		{agg.Mul, '*', 1 << 32, 1 << 32, 0, false},
		{agg.Mul, '*', least, least, 0, false},
		{agg.Mul, '*', 3037000500, 3037000500, 0, false},
		{agg.Mul, '*', 3037000499, 3037000499, 9223372030926249001, true},
	} {
		what := fmt.Sprintf("%d %c %d", c.a, c.op, c.b)
		n, err := c.f(c.a, c.b)
		if n != c.n || (err == nil) != c.fits {
			t.Errorf("%s: %d, %v", what, n, err)
		}
		if !c.fits {
			wantOverflow(t, what, err, c.op, c.a, c.b)
		}
	}
}

// checkOperation holds one against numbers of any length.
func checkOperation(t *testing.T, o operation, a, b int64) {
	t.Helper()
	n, err := o.checked(a, b)
	truth := o.truly(new(big.Int), big.NewInt(a), big.NewInt(b))
	what := fmt.Sprintf("%d %c %d", a, o.op, b)
	if truth.IsInt64() {
		if err != nil || n != truth.Int64() {
			t.Errorf("%s: %d, %v; want %v", what, n, err, truth)
		}
		return
	}
	wantOverflow(t, what, err, o.op, a, b)
	if n != 0 {
		t.Errorf("%s: %d beside an error", what, n)
	}
}

// P301, P4: each two edges, and any numbers, by numbers of any length.
func TestCheckedByTruth(t *testing.T) {
	r := rand.New(rand.NewPCG(1, 1))
	for _, o := range operations() {
		for _, a := range edges() {
			for _, b := range edges() {
				checkOperation(t, o, a, b)
			}
		}
		for range 50000 {
			checkOperation(t, o, anyInt(r), anyInt(r))
		}
	}
}

// P301: the words, of example 1 and of numbers with and without a sign.
func TestOverflowWords(t *testing.T) {
	for _, c := range []struct {
		o    agg.Overflow
		word string
	}{
		{agg.Overflow{Op: '+', A: 1 << 62, B: 1 << 62}, "4611686018427387904 + 4611686018427387904: overflow"},
		{agg.Overflow{Op: '-', A: least, B: 1}, "-9223372036854775808 - 1: overflow"},
		{agg.Overflow{Op: '*', A: least, B: -1}, "-9223372036854775808 * -1: overflow"},
		{agg.Overflow{Op: '+', A: most, B: least}, "9223372036854775807 + -9223372036854775808: overflow"},
		{agg.Overflow{}, "0 \x00 0: overflow"},
		{agg.Overflow{Op: ' ', A: -10, B: 7}, "-10   7: overflow"},
	} {
		if got := c.o.Error(); got != c.word {
			t.Errorf("%+v: %q; want %q", c.o, got, c.word)
		}
	}
	_, err := agg.Add(1<<62, 1<<62)
	if err == nil || err.Error() != "4611686018427387904 + 4611686018427387904: overflow" {
		t.Errorf("example 1: %v", err)
	}
}

// P301: Op stands there as the one byte that it is, whichever.
func TestOverflowOfEveryByte(t *testing.T) {
	for n := range 256 {
		o := &agg.Overflow{Op: byte(n), A: -1, B: 2}
		want := strings.Join([]string{"-1 ", " 2: overflow"}, string([]byte{byte(n)}))
		if o.Error() != want {
			t.Errorf("%d: %q; want %q", n, o.Error(), want)
		}
		if o.Unwrap() != error(api.ErrOverflow) {
			t.Errorf("%d: wraps %v", n, o.Unwrap())
		}
	}
}

// P301: errors.Is and errors.As find the number, and no other one.
func TestOverflowWraps(t *testing.T) {
	_, err := agg.Mul(least, -1)
	var number api.Errno
	if !errors.As(err, &number) || number != api.ErrOverflow {
		t.Errorf("errors.As of an Errno: %v", number)
	}
	if !errors.Is(err, api.ErrOverflow) || errors.Is(err, api.ErrMany) {
		t.Error("errors.Is finds another number")
	}
}

// P7: each Overflow is nobody else's: to change one changes no other.
func TestOverflowsAreTheirOwn(t *testing.T) {
	for _, o := range operations() {
		_, err := o.checked(least, most)
		if o.op == '+' {
			_, err = o.checked(most, most)
		}
		mine := err.(*agg.Overflow)
		want := *mine
		_, err = o.checked(want.A, want.B)
		*mine = agg.Overflow{}
		wantOverflow(t, "a second one", err, want.Op, want.A, want.B)
	}
}
