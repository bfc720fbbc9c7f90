package chain

import (
	"iter"
	"slices"
)

// Len tells how many versions there are; All goes over them: epochs, and whether each is a value.
func (c *Chain[V]) Len() int {
	return len(c.versions)
}

func (c *Chain[V]) All() iter.Seq2[int, bool] {
	// The stamps are copied now: the chain may change while the sequence is gone over.
	stamps := make([]stamp, 0, len(c.versions))
	for _, v := range c.versions {
		stamps = append(stamps, v.stamp)
	}
	return func(yield func(int, bool) bool) {
		for _, s := range stamps {
			if !yield(s.epoch, s.there) {
				return
			}
		}
	}
}

func (c *Chain[V]) Twin() *Chain[V] {
	return &Chain[V]{versions: slices.Clone(c.versions)}
}
