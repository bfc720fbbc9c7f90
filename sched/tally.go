package sched

import "math/bits"

// tally counts the tasks that are ready, over ranges of their numbers, so that neither a pick nor a wake needs to look at all of them.
type tally struct {
	all  int
	sums []int // sums[i] is that of the numbers up to i, as many of them as the lowest bit of i + 1 says
}

func lowBit(n int) int {
	return n & -n
}

// grow counts one number more, behind all others; it is ready.
func (t *tally) grow() {
	end := len(t.sums) + 1
	sum := 1
	for i := end - 1; i > end-lowBit(end); i -= lowBit(i) {
		sum += t.sums[i-1]
	}
	t.sums = append(t.sums, sum)
	t.all++
}

func (t *tally) add(n, by int) {
	for i := n + 1; i <= len(t.sums); i += lowBit(i) {
		t.sums[i-1] += by
	}
	t.all += by
}

// at tells the number that has so many ready ones ahead of it, and is ready itself; there must be more than these.
func (t *tally) at(ahead int) int {
	n := 0
	for span := 1 << bits.Len(uint(len(t.sums))); span > 0; span /= 2 {
		if n+span <= len(t.sums) && t.sums[n+span-1] <= ahead {
			n += span
			ahead -= t.sums[n-1]
		}
	}
	return n
}
