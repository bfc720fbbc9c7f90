package locks

// uses counts the sets that have a lock.
type uses struct {
	shared, alone int
}

// claims are sets by their tasks. What they have together is kept beside them, and counted, so that neither an ask nor a set that goes needs to look at all of them.
type claims struct {
	sets     map[int]set
	together set
	counts   []uses // by the locks' numbers
}

func newClaims(locks int) claims {
	return claims{sets: map[int]set{}, counts: make([]uses, locks)}
}

// of answers the zero set, if the task has none.
func (c *claims) of(task int) set {
	return c.sets[task]
}

func (c *claims) put(task int, s set) {
	c.sets[task] = s
	c.count(s, 1)
}

func (c *claims) drop(task int) {
	c.count(c.sets[task], -1)
	delete(c.sets, task)
}

func (c *claims) count(s set, by int) {
	for _, l := range s.list() {
		n := &c.counts[l.N]
		if l.Shared {
			n.shared += by
		} else {
			n.alone += by
		}
		c.together.all.put(l.N, *n != uses{})
		c.together.alone.put(l.N, n.alone > 0)
	}
}
