package merge

import (
	"cmp"
	"container/heap"
)

// rest is what is not yet taken of the list that was handed in at a place; a rest of nothing is none.
type rest[T any] struct {
	place int
	items []T
}

// rests is a heap of them: the first one's front is what comes next.
type rests[T any] struct {
	compare func(a, b T) int
	all     []rest[T]
}

func newRests[T any](compare func(a, b T) int, lists [][]T) *rests[T] {
	r := &rests[T]{compare: compare}
	for place, items := range lists {
		if len(items) > 0 {
			heap.Push(r, rest[T]{place, items})
		}
	}
	return r
}

// take tells what comes next; there must be some.
func (r *rests[T]) take() T {
	first := &r.all[0]
	item := first.items[0]
	first.items = first.items[1:]
	if len(first.items) > 0 {
		heap.Fix(r, 0)
	} else {
		heap.Pop(r)
	}
	return item
}

func (r *rests[T]) Len() int {
	return len(r.all)
}

// Less keeps to the lists' places where fronts are alike: a heap alone would not.
func (r *rests[T]) Less(i, j int) bool {
	a, b := r.all[i], r.all[j]
	return cmp.Or(r.compare(a.items[0], b.items[0]), cmp.Compare(a.place, b.place)) < 0
}

func (r *rests[T]) Swap(i, j int) {
	r.all[i], r.all[j] = r.all[j], r.all[i]
}

func (r *rests[T]) Push(one any) {
	r.all = append(r.all, one.(rest[T]))
}

func (r *rests[T]) Pop() any {
	end := len(r.all) - 1
	last := r.all[end]
	r.all = r.all[:end]
	return last
}
