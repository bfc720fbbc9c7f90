package agg

import (
	"strconv"

	"spate/api"
)

// Overflow is what does not fit: as an error it wraps api.ErrOverflow.
type Overflow struct {
	Op   byte
	A, B int64
}

func (o *Overflow) Error() string {
	b := strconv.AppendInt(nil, o.A, 10)
	b = append(b, ' ', o.Op, ' ')
	b = strconv.AppendInt(b, o.B, 10)
	return string(append(b, ": overflow"...))
}

func (o *Overflow) Unwrap() error { return api.ErrOverflow }

// Add, Sub and Mul check; the error is an *Overflow, or nil.
func Add(a, b int64) (int64, error) {
	n := a + b
	// A sum that wrapped lies on the wrong side of a.
	if (b < 0) != (n < a) {
		return 0, &Overflow{'+', a, b}
	}
	return n, nil
}

func Sub(a, b int64) (int64, error) {
	n := a - b
	if (b > 0) != (n < a) {
		return 0, &Overflow{'-', a, b}
	}
	return n, nil
}

func Mul(a, b int64) (int64, error) {
	n := a * b
	if times(a, b) != widen(n) {
		return 0, &Overflow{'*', a, b}
	}
	return n, nil
}
