package table

// state tells what a place is; gone ones are in an elder row only, where looking for a key must pass them.
type state byte

const (
	empty state = iota
	taken
	gone
)

// entry is a key and what lies under it.
type entry[V any] struct {
	key   string
	value V
}

// place has an entry, if it is taken.
type place[V any] struct {
	state
	entry[V]
}

// row is places, of which at least one is empty; behind the last one comes the first.
type row[V any] []place[V]

// Hash tells a text's number (W9).
func Hash(key string) uint64 {
	hash := uint64(14695981039346656037)
	for i := range len(key) {
		hash ^= uint64(key[i])
		hash *= 1099511628211
	}
	return hash
}

func (r row[V]) home(key string) int {
	return int(Hash(key) % uint64(len(r)))
}

func (r row[V]) next(at int) int {
	return (at + 1) % len(r)
}

// way tells how many places it is from one on to another.
func (r row[V]) way(from, to int) int {
	return (to - from + len(r)) % len(r)
}

// look tells the place of a key, or, if it is not there, the empty one at which looking ended.
func (r row[V]) look(key string) (at int, there bool) {
	if r == nil {
		return 0, false
	}
	at = r.home(key)
	for r[at].state != empty {
		if r[at].state == taken && r[at].key == key {
			return at, true
		}
		at = r.next(at)
	}
	return at, false
}

// lay puts down a key that is not there, in a row without gone places: there looking ends at the first empty one.
func (r row[V]) lay(e entry[V]) {
	at, _ := r.look(e.key)
	r[at] = place[V]{taken, e}
}

// give takes out what lies at a place, which is gone then.
func (r row[V]) give(at int) entry[V] {
	e := r[at].entry
	r[at] = place[V]{state: gone}
	return e
}

// mend makes a place empty and lets keys behind it go up, so that none is cut off from its home.
func (r row[V]) mend(at int) {
	r[at] = place[V]{}
	for k := r.next(at); r[k].state != empty; k = r.next(k) {
		home := r.home(r[k].key)
		// A key whose home is nearer than the empty place is found without passing that one.
		if r.way(home, k) < r.way(at, k) {
			continue
		}
		r[at], r[k] = r[k], place[V]{}
		at = k
	}
}
