package locks

import (
	"math/bits"

	"spate/api"
)

const wordBits = 64

// mask has a bit for each lock that there may be.
type mask [api.MaxLocks / wordBits]uint64

func (m *mask) has(n int) bool {
	return m[n/wordBits]>>(n%wordBits)&1 == 1
}

func (m *mask) put(n int, in bool) {
	bit := uint64(1) << (n % wordBits)
	if in {
		m[n/wordBits] |= bit
	} else {
		m[n/wordBits] &^= bit
	}
}

func (m mask) both(other mask) mask {
	for i, word := range other {
		m[i] &= word
	}
	return m
}

func (m mask) either(other mask) mask {
	for i, word := range other {
		m[i] |= word
	}
	return m
}

func (m mask) without(other mask) mask {
	for i, word := range other {
		m[i] &^= word
	}
	return m
}

// set is a set of locks. A task has or wants one lock at least, so that the zero set stands for none.
type set struct {
	all   mask
	alone mask // those of all that are not shared
}

func (s *set) add(l api.Lock) {
	s.all.put(l.N, true)
	s.alone.put(l.N, !l.Shared)
}

func (s set) with(other set) set {
	return set{all: s.all.either(other.all), alone: s.alone.either(other.alone)}
}

func (s set) conflicts(other set) bool {
	return s.all.both(other.alone) != mask{} || s.alone.both(other.all) != mask{}
}

// list tells the locks by their numbers.
func (s set) list() []api.Lock {
	var all []api.Lock
	for i, word := range s.all {
		for ; word != 0; word &= word - 1 {
			n := i*wordBits + bits.TrailingZeros64(word)
			all = append(all, api.Lock{N: n, Shared: !s.alone.has(n)})
		}
	}
	return all
}
