package chain_test

import (
	"math"
	"math/rand/v2"
	"slices"
	"testing"

	"spate/api"
	"spate/chain"
)

// P505: example 2.
func TestPruneExample(t *testing.T) {
	c := chain.New[string]()
	c.Put(3, "b")
	c.Put(5, "c")
	c.Kill(6)
	wantPrune(t, c, []int{4, 4}, 1)
	wantMarks(t, c, mark{3, true}, mark{6, false})
	wantAt(t, c, 5, "b", true)
	wantPrune(t, c, []int{}, 2)
	wantMarks(t, c)
	wantNewest(t, c, "", 0, false)
	wantKill(t, c, 8, 0, api.ErrGone)
	wantPut(t, c, 1, "a", 1, api.OK)
	wantMarks(t, c, mark{1, true})
	wantNewest(t, c, "a", 1, true)
}

// P505: example 3: a tombstone alone goes, though its epoch is held; a value alone stays.
func TestPruneOfOne(t *testing.T) {
	c := chain.New[string]()
	wantPut(t, c, 2, "a", 1, api.OK)
	wantPrune(t, c, nil, 0)
	wantPrune(t, c, []int{1}, 0)
	wantKill(t, c, 2, 0, api.OK)
	wantMarks(t, c, mark{2, false})
	wantPrune(t, c, []int{2}, 1)
	wantMarks(t, c)
	wantPrune(t, c, []int{2}, 0)
}

// P505: example 4: held in any order; one below all versions needs none.
func TestPruneKeepsHeld(t *testing.T) {
	c := chain.New[string]()
	c.Put(2, "a")
	c.Put(4, "b")
	c.Put(6, "c")
	wantPrune(t, c, []int{5, 1, 3}, 0)
	wantMarks(t, c, mark{2, true}, mark{4, true}, mark{6, true})
	wantPrune(t, c, []int{1, math.MinInt, 4, math.MaxInt, 5}, 1)
	wantMarks(t, c, mark{4, true}, mark{6, true})
	wantPrune(t, c, []int{6, 7, math.MaxInt}, 1)
	wantMarks(t, c, mark{6, true})
	wantAt(t, c, 6, "c", true)
}

// P505: a tombstone that is not alone stays, if it is held; at the front, too.
func TestPruneOfTombstones(t *testing.T) {
	c := chain.New[string]()
	c.Put(1, "a")
	c.Kill(2)
	c.Put(3, "b")
	c.Kill(4)
	wantPrune(t, c, []int{2}, 2)
	wantMarks(t, c, mark{2, false}, mark{4, false})
	wantPrune(t, c, []int{4}, 2)
	wantMarks(t, c)
	c.Put(5, "c")
	c.Kill(5)
	c.Put(6, "d")
	wantPrune(t, c, []int{5}, 0)
	wantMarks(t, c, mark{5, false}, mark{6, true})
	wantPrune(t, c, []int{4}, 1)
	wantMarks(t, c, mark{6, true})
}

// P505: long lists take no long time.
func TestPruneOfMany(t *testing.T) {
	const many = 200_000
	c := chain.New[string]()
	var held []int
	for i := 1; i <= many; i++ {
		c.Put(2*i, "v")
		if i%2 == 0 {
			held = append(held, 2*i+1)
		}
	}
	slices.Reverse(held)
	wantPrune(t, c, held, many/2)
	wantPrune(t, c, held, 0)
	if c.Len() != many/2 {
		t.Errorf("%d are left", c.Len())
	}
}

// P507: At stays the same of held epochs, and of those at or above the newest version's.
func TestPruneChangesNothingHeld(t *testing.T) {
	r := rand.New(rand.NewPCG(2, 2))
	went, others := 0, 0
	for range 2000 {
		c, _ := anyChain(r, 1+r.IntN(20))
		_, top, _ := c.Newest()
		held := anyHeld(r, top)
		asked := append(slices.Clone(held), top, top+1, 1<<40, math.MaxInt)
		before := c.Twin()
		went += c.Prune(held)
		for _, epoch := range asked {
			v, there := before.At(epoch)
			wantAt(t, c, epoch, v, there)
		}
		for epoch := range top {
			v, there := before.At(epoch)
			if w, is := c.At(epoch); w != v || is != there {
				others++
			}
		}
	}
	if went < 1000 || others < 1000 {
		t.Errorf("%d went, %d epochs told otherwise: this tests too little", went, others)
	}
}

// P507: how many versions are left, and that Prune again lets nothing go.
func TestPruneLeavesFew(t *testing.T) {
	r := rand.New(rand.NewPCG(3, 3))
	full := 0
	for range 2000 {
		c, _ := anyChain(r, 1+r.IntN(30))
		_, top, _ := c.Newest()
		held := anyHeld(r, top)
		unlike := map[int]bool{}
		for _, h := range held {
			unlike[h] = true
		}
		c.Prune(held)
		if c.Len() > len(unlike)+1 {
			t.Errorf("%d versions behind Prune(%v)", c.Len(), held)
		}
		if c.Len() == len(unlike)+1 && len(unlike) > 1 {
			full++
		}
		marks := marksOf(c)
		wantPrune(t, c, held, 0)
		slices.Reverse(held)
		wantPrune(t, c, held, 0)
		wantMarks(t, c, marks...)
	}
	if full < 100 {
		t.Errorf("only %d with as many as may be: this tests too little", full)
	}
}
