package table

import (
	"iter"
	"slices"
	"strings"
)

// All goes over keys and values, by key.
func (t *Table[V]) All() iter.Seq2[string, V] {
	// The entries are copied now: the table may change while the sequence is gone over.
	all := make([]entry[V], 0, t.keys)
	all = t.row.gather(all)
	all = t.elder.gather(all)
	slices.SortFunc(all, func(a, b entry[V]) int { return strings.Compare(a.key, b.key) })
	return func(yield func(string, V) bool) {
		for _, e := range all {
			if !yield(e.key, e.value) {
				return
			}
		}
	}
}

// gather lays a row's entries behind others, in no order that counts.
func (r row[V]) gather(all []entry[V]) []entry[V] {
	for _, p := range r {
		if p.state == taken {
			all = append(all, p.entry)
		}
	}
	return all
}

func (t *Table[V]) Twin() *Table[V] {
	twin := *t
	twin.row = slices.Clone(t.row)
	twin.elder = slices.Clone(t.elder)
	return &twin
}
