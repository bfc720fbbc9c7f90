package chain_test

import (
	"math"
	"math/rand/v2"
	"slices"
	"testing"

	"spate/api"
	"spate/chain"
)

// mark is what a sequence tells of a version.
type mark struct {
	epoch int
	there bool
}

// plain is a chain as the promises say it: a value or a tombstone (nil) for each epoch, looked for one by one.
type plain map[int]*string

func (p plain) epochs() []int {
	var all []int
	for e := range p {
		all = append(all, e)
	}
	slices.Sort(all)
	return all
}

func (p plain) marks() []mark {
	var all []mark
	for _, e := range p.epochs() {
		all = append(all, mark{e, p[e] != nil})
	}
	return all
}

// newest tells the newest epoch at or below one; 0, if there is none.
func (p plain) newest(upTo int) int {
	found := 0
	for e := range p {
		if e <= upTo && e > found {
			found = e
		}
	}
	return found
}

func (p plain) at(epoch int) (string, bool) {
	if v := p[p.newest(epoch)]; v != nil {
		return *v, true
	}
	return "", false
}

func (p plain) check(epoch int) api.Errno {
	switch {
	case epoch < 1 || epoch > 1<<40:
		return api.ErrArg
	case epoch < p.newest(math.MaxInt):
		return api.ErrOld
	}
	return api.OK
}

func (p plain) put(epoch int, v string) (int, api.Errno) {
	if errno := p.check(epoch); errno != api.OK {
		return 0, errno
	}
	before := len(p)
	p[epoch] = &v
	return len(p) - before, api.OK
}

func (p plain) kill(epoch int) (int, api.Errno) {
	if errno := p.check(epoch); errno != api.OK {
		return 0, errno
	}
	if p[p.newest(math.MaxInt)] == nil {
		return 0, api.ErrGone
	}
	before := len(p)
	p[epoch] = nil
	return len(p) - before, api.OK
}

func (p plain) prune(held []int) int {
	before, top := len(p), p.newest(math.MaxInt)
	stay := map[int]bool{top: true}
	for _, h := range held {
		stay[p.newest(h)] = true
	}
	for _, e := range p.epochs() {
		if !stay[e] {
			delete(p, e)
		}
	}
	if len(p) == 1 && p[top] == nil {
		delete(p, top)
	}
	return before - len(p)
}

// marksOf goes over the whole chain.
func marksOf(c *chain.Chain[string]) []mark {
	var all []mark
	for e, there := range c.All() {
		all = append(all, mark{e, there})
	}
	return all
}

// edgeEpochs are numbers at which something may wrap, or that stand at the bounds.
func edgeEpochs() []int {
	return []int{math.MinInt, math.MinInt + 1, -1 << 40, -1, 0, 1, 2, 1<<40 - 1, 1 << 40, 1<<40 + 1, 1 << 41, math.MaxInt - 1, math.MaxInt}
}

// anyHeld is a list of numbers around the epochs of a chain, some twice, in no order.
func anyHeld(r *rand.Rand, top int) []int {
	var held []int
	for range r.IntN(6) {
		held = append(held, r.IntN(top+4)-1)
	}
	for len(held) > 0 && r.IntN(3) == 0 {
		held = append(held, held[r.IntN(len(held))])
	}
	if r.IntN(8) == 0 {
		edges := edgeEpochs()
		held = append(held, edges[r.IntN(len(edges))])
	}
	return held
}

// anyChain is one of some versions between 1 and top, with its plain likeness.
func anyChain(r *rand.Rand, top int) (*chain.Chain[string], plain) {
	c, p := chain.New[string](), plain{}
	for e := 1 + r.IntN(3); e <= top; e += r.IntN(4) {
		if r.IntN(3) == 0 {
			c.Kill(e)
			p.kill(e)
			continue
		}
		v := anyValue(r)
		c.Put(e, v)
		p.put(e, v)
	}
	return c, p
}

// anyValue is now and then the zero value: it is told apart from none.
func anyValue(r *rand.Rand) string {
	return []string{"", "a", "b", "c", "d"}[r.IntN(5)]
}

func wantPut(t *testing.T, c *chain.Chain[string], epoch int, v string, want int, why api.Errno) {
	t.Helper()
	if n, errno := c.Put(epoch, v); n != want || errno != why {
		t.Errorf("Put(%d, %q): %d, %v; want %d, %v", epoch, v, n, errno, want, why)
	}
}

func wantKill(t *testing.T, c *chain.Chain[string], epoch, want int, why api.Errno) {
	t.Helper()
	if n, errno := c.Kill(epoch); n != want || errno != why {
		t.Errorf("Kill(%d): %d, %v; want %d, %v", epoch, n, errno, want, why)
	}
}

func wantAt(t *testing.T, c *chain.Chain[string], epoch int, want string, is bool) {
	t.Helper()
	if v, there := c.At(epoch); v != want || there != is {
		t.Errorf("At(%d): %q, %v; want %q, %v", epoch, v, there, want, is)
	}
}

func wantNewest(t *testing.T, c *chain.Chain[string], want string, since int, is bool) {
	t.Helper()
	if v, epoch, there := c.Newest(); v != want || epoch != since || there != is {
		t.Errorf("Newest: %q, %d, %v; want %q, %d, %v", v, epoch, there, want, since, is)
	}
}

func wantPrune(t *testing.T, c *chain.Chain[string], held []int, want int) {
	t.Helper()
	if n := c.Prune(held); n != want {
		t.Errorf("Prune(%v): %d; want %d", held, n, want)
	}
}

func wantMarks(t *testing.T, c *chain.Chain[string], want ...mark) {
	t.Helper()
	if got := marksOf(c); !slices.Equal(got, want) || c.Len() != len(want) {
		t.Errorf("All: %v, Len: %d; want %v", got, c.Len(), want)
	}
}

// wantLike asks that all that can be told of a chain is as of its plain likeness.
func wantLike(t *testing.T, c *chain.Chain[string], p plain) {
	t.Helper()
	wantMarks(t, c, p.marks()...)
	top := p.newest(math.MaxInt)
	v, there := p.at(math.MaxInt)
	wantNewest(t, c, v, top, there)
	asked := edgeEpochs()
	for _, e := range p.epochs() {
		asked = append(asked, e-1, e, e+1)
	}
	for _, e := range asked {
		v, there := p.at(e)
		wantAt(t, c, e, v, there)
	}
}
