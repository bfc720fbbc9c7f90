package chain

// Prune lets go what is needed no more: how many versions.
func (c *Chain[V]) Prune(held []int) int {
	before := len(c.versions)
	stays := c.needed(held)
	kept := c.versions[:0]
	for i, v := range c.versions {
		if stays[i] {
			kept = append(kept, v)
		}
	}
	if len(kept) == 1 && !kept[0].there {
		kept = kept[:0]
	}
	// What went is not to be kept alive behind the list's end.
	clear(c.versions[len(kept):])
	c.versions = kept
	return before - len(kept)
}

// needed tells of each version whether it is the newest one, or that of a held epoch.
func (c *Chain[V]) needed(held []int) []bool {
	stays := make([]bool, len(c.versions))
	for _, epoch := range held {
		if n := c.upTo(epoch); n > 0 {
			stays[n-1] = true
		}
	}
	if n := len(stays); n > 0 {
		stays[n-1] = true
	}
	return stays
}
