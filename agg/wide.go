package agg

import "math/bits"

// wide is a whole number of 128 bits, in two's complement: room for an aggregate's true sums.
type wide struct {
	high int64
	low  uint64
}

// sign is all ones below 0, else all noughts: what stands ahead of a number's 64 bits when it is widened.
func sign(n int64) int64 { return n >> 63 }

func widen(n int64) wide { return wide{sign(n), uint64(n)} }

func times(a, b int64) wide {
	high, low := bits.Mul64(uint64(a), uint64(b))
	// Mul64 takes a number below 0 as 1 << 64 more: the other one stands in the high half once too often.
	return wide{int64(high) - sign(a)&b - sign(b)&a, low}
}

func (w wide) plus(n int64) wide {
	low, carry := bits.Add64(w.low, uint64(n), 0)
	return wide{w.high + sign(n) + int64(carry), low}
}

func (w wide) below(other wide) bool {
	if w.high != other.high {
		return w.high < other.high
	}
	return w.low < other.low
}
