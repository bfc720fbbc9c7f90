package chain_test

import (
	"math/rand/v2"
	"slices"
	"testing"

	"spate/api"
	"spate/chain"
)

// P506, P5: a sequence goes over what the chain was when it was made, whatever is done behind that.
func TestSequenceOfThen(t *testing.T) {
	c := chain.New[string]()
	none := c.All()
	c.Put(3, "a")
	c.Put(5, "b")
	seq := c.All()
	want := []mark{{3, true}, {5, true}}
	ask := func() {
		t.Helper()
		var got []mark
		for e, there := range seq {
			got = append(got, mark{e, there})
		}
		if !slices.Equal(got, want) {
			t.Errorf("%v; want %v", got, want)
		}
		for e := range none {
			t.Errorf("%d of a chain without versions", e)
		}
	}
	ask()
	c.Kill(5)
	ask()
	c.Put(6, "c")
	ask()
	c.Prune(nil)
	ask()
	c.Kill(6)
	c.Prune(nil)
	c.Put(1, "d")
	ask()
	wantMarks(t, c, mark{1, true})
}

// P5: it may be left early, be ranged over again, also within itself.
func TestSequenceWithinItself(t *testing.T) {
	c := chain.New[string]()
	for e := 1; e <= 5; e++ {
		c.Put(e, "a")
	}
	seq := c.All()
	var pairs []int
	for a := range seq {
		for b := range seq {
			if b > a {
				break
			}
			pairs = append(pairs, 10*a+b)
		}
		if a == 3 {
			break
		}
	}
	if want := []int{11, 21, 22, 31, 32, 33}; !slices.Equal(pairs, want) {
		t.Errorf("%v; want %v", pairs, want)
	}
	n := 0
	for range seq {
		n++
	}
	if n != 5 {
		t.Errorf("%d behind leaving early", n)
	}
	seq(func(int, bool) bool { n++; return false })
	if n != 6 {
		t.Errorf("%d calls behind a false", n-5)
	}
}

// P5: the chain is asked and changed while a sequence of it is gone over.
func TestChangedMeanwhile(t *testing.T) {
	c := chain.New[string]()
	c.Put(1, "a")
	c.Put(2, "b")
	c.Put(3, "c")
	var got []mark
	for e, there := range c.All() {
		got = append(got, mark{e, there})
		switch e {
		case 1:
			wantPrune(t, c, nil, 2)
			wantPut(t, c, 9, "x", 1, api.OK)
		case 2:
			wantKill(t, c, 9, 0, api.OK)
			wantMarks(t, c, mark{3, true}, mark{9, false})
		}
	}
	if want := []mark{{1, true}, {2, true}, {3, true}}; !slices.Equal(got, want) {
		t.Errorf("%v; want %v", got, want)
	}
}

// P506, P7: of a chain and its twin neither is changed with the other.
func TestTwin(t *testing.T) {
	r := rand.New(rand.NewPCG(4, 4))
	for range 500 {
		c, p := anyChain(r, r.IntN(20))
		twin := c.Twin()
		wantLike(t, twin, p)
		_, top, _ := c.Newest()
		// The same place behind the last version, and the last one's own, are written of each.
		changed, left := c, twin
		if r.IntN(2) == 0 {
			changed, left = twin, c
		}
		left.Put(top+1, "l")
		p.put(top+1, "l")
		changed.Put(max(top, 1), "x")
		changed.Put(top+1, "y")
		changed.Kill(top + 2)
		wantLike(t, left, p)
		changed.Prune(nil)
		wantMarks(t, changed)
		wantLike(t, left, p)
	}
}

// P506: a twin without versions, and a twin's twin, are chains as others are.
func TestTwinOfNone(t *testing.T) {
	c := chain.New[string]()
	twin := c.Twin()
	again := twin.Twin()
	wantPut(t, twin, 1, "a", 1, api.OK)
	wantMarks(t, c)
	wantMarks(t, again)
	wantKill(t, again, 1, 0, api.ErrGone)
}

// P506: values are as they are assigned: what they point to is one and the same.
func TestValuesAsAssigned(t *testing.T) {
	c := chain.New[[]int]()
	list := []int{1, 2}
	c.Put(1, list)
	twin := c.Twin()
	list[0] = 7
	a, _ := c.At(1)
	b, _ := twin.At(1)
	n, _, _ := twin.Newest()
	if a[0] != 7 || b[0] != 7 || &a[0] != &list[0] || &b[0] != &list[0] || &n[0] != &list[0] {
		t.Errorf("%v, %v, %v", a, b, n)
	}
}

// P501 to P506: of structs, of functions (which cannot be compared), of nothing at all.
func TestOtherValues(t *testing.T) {
	aggs := chain.New[api.Agg]()
	aggs.Put(1, api.Agg{Count: 1, Sum: 5, Min: 5, Max: 5})
	aggs.Kill(2)
	if a, there := aggs.At(1); a.Sum != 5 || !there {
		t.Errorf("At(1): %v, %v", a, there)
	}
	if a, epoch, there := aggs.Newest(); a != (api.Agg{}) || epoch != 2 || there {
		t.Errorf("Newest: %v, %d, %v", a, epoch, there)
	}
	calls := chain.New[func() int]()
	calls.Put(1, func() int { return 4 })
	if f, there := calls.At(3); !there || f() != 4 {
		t.Errorf("At(3): %v", there)
	}
	calls.Kill(1)
	if f, there := calls.At(3); there || f != nil {
		t.Errorf("At(3): %v", there)
	}
	empty := chain.New[struct{}]()
	empty.Put(1, struct{}{})
	empty.Put(2, struct{}{})
	if empty.Len() != 2 || empty.Prune(nil) != 1 || empty.Len() != 1 {
		t.Errorf("%d left", empty.Len())
	}
}

// P508: Put and Kill at an epoch change At of no lower one.
func TestLowerEpochsStay(t *testing.T) {
	r := rand.New(rand.NewPCG(5, 5))
	wrote := 0
	for range 2000 {
		c, _ := anyChain(r, 1+r.IntN(20))
		_, top, _ := c.Newest()
		before, epoch := c.Twin(), top+r.IntN(4)-1
		var errno api.Errno
		if r.IntN(2) == 0 {
			_, errno = c.Put(epoch, "new")
		} else {
			_, errno = c.Kill(epoch)
		}
		if errno == api.OK {
			wrote++
		}
		for e := -1; e < epoch; e++ {
			v, there := before.At(e)
			wantAt(t, c, e, v, there)
		}
	}
	if wrote < 1000 {
		t.Errorf("only %d writes: this tests too little", wrote)
	}
}

// P508: versions rise; Len is how many All goes over.
func TestVersionsRise(t *testing.T) {
	r := rand.New(rand.NewPCG(6, 6))
	several := 0
	for range 1000 {
		c, _ := anyChain(r, r.IntN(30))
		_, top, _ := c.Newest()
		if r.IntN(2) == 0 {
			c.Prune(anyHeld(r, top))
		}
		marks := marksOf(c)
		if len(marks) != c.Len() {
			t.Errorf("%v; Len: %d", marks, c.Len())
		}
		for i := 1; i < len(marks); i++ {
			several++
			if marks[i].epoch <= marks[i-1].epoch {
				t.Errorf("%v: no rise", marks)
			}
		}
	}
	if several < 3000 {
		t.Errorf("only %d pairs: this tests too little", several)
	}
}

// P2: held, its spare room too, is not changed; and it is not kept.
func TestHeldStays(t *testing.T) {
	c := chain.New[string]()
	for e := 1; e <= 9; e++ {
		c.Put(e, "a")
	}
	room := []int{7, 3, 3, -1, 5, 20, 18, 17}
	held := room[:4]
	was := slices.Clone(room)
	wantPrune(t, c, held, 6)
	if !slices.Equal(room, was) {
		t.Errorf("%v; want %v", room, was)
	}
	clear(room)
	wantMarks(t, c, mark{3, true}, mark{7, true}, mark{9, true})
	wantPrune(t, c, []int{7}, 1)
}

// P3, P7: two chains that are called alike tell the same, and have nothing in common.
func TestTwiceTheSame(t *testing.T) {
	for seed := range uint64(200) {
		a, _ := anyChain(rand.New(rand.NewPCG(seed, 7)), 20)
		other, p := anyChain(rand.New(rand.NewPCG(seed, 8)), 20)
		b, q := anyChain(rand.New(rand.NewPCG(seed, 7)), 20)
		wantLike(t, a, q)
		wantLike(t, b, q)
		wantLike(t, a, q)
		a.Prune(nil)
		a.Put(1<<40, "z")
		wantLike(t, b, q)
		wantLike(t, other, p)
	}
}

// P1, P4: every call ends and none panics, whatever ints it is given; an error changes nothing and stands beside a 0.
func TestWhateverIsGiven(t *testing.T) {
	r := rand.New(rand.NewPCG(9, 9))
	refused := 0
	for range 20 {
		c, p := anyChain(r, r.IntN(12))
		for _, epoch := range edgeEpochs() {
			v := anyValue(r)
			n, errno := p.put(epoch, v)
			wantPut(t, c, epoch, v, n, errno)
			wantLike(t, c, p)
			m, why := p.kill(epoch)
			wantKill(t, c, epoch, m, why)
			wantLike(t, c, p)
			if errno != api.OK && why != api.OK {
				refused++
			}
			held := edgeEpochs()[:r.IntN(len(edgeEpochs()))]
			wantPrune(t, c, held, p.prune(held))
			wantLike(t, c, p)
		}
	}
	if refused < 100 {
		t.Errorf("only %d refused: this tests too little", refused)
	}
}
