package merge

import (
	"cmp"
	"iter"
)

// Seq goes over two sequences that rise as one: of like keys the first one's.
func Seq[K cmp.Ordered, V any](a, b iter.Seq2[K, V]) iter.Seq2[K, V] {
	return func(yield func(K, V) bool) {
		other := newWalk(b)
		defer other.leave()
		for key, value := range a {
			for other.stands() && other.key < key {
				if !other.tell(yield) {
					return
				}
			}
			if other.stands() && other.key == key {
				other.at = false // passed over: a's is told for it
			}
			if !yield(key, value) {
				return
			}
		}
		for other.stands() {
			if !other.tell(yield) {
				return
			}
		}
	}
}
