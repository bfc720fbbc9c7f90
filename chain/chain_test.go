package chain_test

import (
	"math"
	"math/rand/v2"
	"testing"

	"spate/api"
	"spate/chain"
)

// P501: a chain without versions, of whatever values.
func TestNew(t *testing.T) {
	c := chain.New[string]()
	wantLike(t, c, plain{})
	wantPrune(t, c, nil, 0)
	wantPrune(t, c, edgeEpochs(), 0)
	wantKill(t, c, 1, 0, api.ErrGone)
	wantLike(t, c, plain{})
	if v, there := chain.New[[]int]().At(1); v != nil || there {
		t.Errorf("At(1): %v, %v", v, there)
	}
	if v, epoch, there := chain.New[*int]().Newest(); v != nil || epoch != 0 || there {
		t.Errorf("Newest: %v, %d, %v", v, epoch, there)
	}
}

// P502, P504: example 1.
func TestPutExample(t *testing.T) {
	c := chain.New[string]()
	wantPut(t, c, 3, "a", 1, api.OK)
	wantPut(t, c, 3, "b", 0, api.OK)
	wantPut(t, c, 5, "c", 1, api.OK)
	wantPut(t, c, 4, "d", 0, api.ErrOld)
	wantAt(t, c, 2, "", false)
	wantAt(t, c, 3, "b", true)
	wantAt(t, c, 4, "b", true)
	wantAt(t, c, 5, "c", true)
	wantAt(t, c, 9, "c", true)
	wantNewest(t, c, "c", 5, true)
}

// P502: the bounds of epochs, and the first error that applies (P6); example 3.
func TestPutErrors(t *testing.T) {
	c := chain.New[string]()
	wrong := []int{math.MinInt, -1 << 40, -1, 0, 1<<40 + 1, 1 << 41, math.MaxInt}
	for _, epoch := range wrong {
		wantPut(t, c, epoch, "x", 0, api.ErrArg)
	}
	wantMarks(t, c)
	wantPut(t, c, 1, "a", 1, api.OK)
	wantPut(t, c, 1<<40, "b", 1, api.OK)
	wantPut(t, c, 1<<40, "c", 0, api.OK)
	for _, epoch := range wrong {
		wantPut(t, c, epoch, "x", 0, api.ErrArg)
	}
	for _, epoch := range []int{1, 2, 1<<40 - 1} {
		wantPut(t, c, epoch, "x", 0, api.ErrOld)
	}
	wantMarks(t, c, mark{1, true}, mark{1 << 40, true})
	wantAt(t, c, 1, "a", true)
	wantNewest(t, c, "c", 1<<40, true)
}

// P502: a value takes a tombstone's place, and comes behind one.
func TestPutOverTombstone(t *testing.T) {
	c := chain.New[string]()
	c.Put(2, "a")
	c.Kill(4)
	wantPut(t, c, 3, "x", 0, api.ErrOld)
	wantPut(t, c, 4, "b", 0, api.OK)
	wantMarks(t, c, mark{2, true}, mark{4, true})
	wantNewest(t, c, "b", 4, true)
	c.Kill(5)
	wantPut(t, c, 6, "", 1, api.OK)
	wantMarks(t, c, mark{2, true}, mark{4, true}, mark{5, false}, mark{6, true})
	wantAt(t, c, 5, "", false)
	wantAt(t, c, 6, "", true)
}

// P503, P504: example 2's beginning, and a tombstone in a value's place.
func TestKillExample(t *testing.T) {
	c := chain.New[string]()
	c.Put(3, "b")
	c.Put(5, "c")
	wantKill(t, c, 6, 1, api.OK)
	wantKill(t, c, 7, 0, api.ErrGone)
	wantAt(t, c, 6, "", false)
	wantAt(t, c, 7, "", false)
	wantAt(t, c, 5, "c", true)
	wantNewest(t, c, "", 6, false)
	wantMarks(t, c, mark{3, true}, mark{5, true}, mark{6, false})
	wantPut(t, c, 8, "d", 1, api.OK)
	wantKill(t, c, 8, 0, api.OK)
	wantAt(t, c, 8, "", false)
	wantAt(t, c, 7, "", false)
	wantNewest(t, c, "", 8, false)
	wantMarks(t, c, mark{3, true}, mark{5, true}, mark{6, false}, mark{8, false})
}

// P503: which error is told first (P6): ErrArg, ErrOld, ErrGone.
func TestKillErrors(t *testing.T) {
	wrong := []int{math.MinInt, -1 << 40, -1, 0, 1<<40 + 1, 1 << 41, math.MaxInt}
	c := chain.New[string]()
	for _, epoch := range wrong {
		wantKill(t, c, epoch, 0, api.ErrArg)
	}
	wantKill(t, c, 1, 0, api.ErrGone)
	wantKill(t, c, 1<<40, 0, api.ErrGone)
	c.Put(5, "a")
	for _, epoch := range wrong {
		wantKill(t, c, epoch, 0, api.ErrArg)
	}
	wantKill(t, c, 4, 0, api.ErrOld)
	wantKill(t, c, 1<<40, 1, api.OK)
	for _, epoch := range wrong {
		wantKill(t, c, epoch, 0, api.ErrArg)
	}
	for _, epoch := range []int{1, 5, 1<<40 - 1} {
		wantKill(t, c, epoch, 0, api.ErrOld)
	}
	wantKill(t, c, 1<<40, 0, api.ErrGone)
	wantMarks(t, c, mark{5, true}, mark{1 << 40, false})
}

// P504: At is asked of any ints.
func TestAtOfAnyInts(t *testing.T) {
	c := chain.New[string]()
	c.Put(1, "a")
	c.Put(1<<40, "b")
	for epoch, want := range map[int]string{1: "a", 2: "a", 1<<40 - 1: "a", 1 << 40: "b", 1<<40 + 1: "b", math.MaxInt: "b"} {
		wantAt(t, c, epoch, want, true)
	}
	for _, epoch := range []int{0, -1, -1 << 40, math.MinInt} {
		wantAt(t, c, epoch, "", false)
	}
}

// P502 to P506: whatever is called, by chance, the chain tells what its plain likeness does.
func TestAnyCalls(t *testing.T) {
	r := rand.New(rand.NewPCG(1, 1))
	told := map[api.Errno]int{}
	went := 0
	for range 300 {
		c, p := chain.New[string](), plain{}
		for range 60 {
			epoch := p.newest(math.MaxInt) + r.IntN(5) - 1
			if r.IntN(30) == 0 {
				epoch = edgeEpochs()[r.IntN(9)]
			}
			switch r.IntN(5) {
			case 0, 1:
				v := anyValue(r)
				n, errno := p.put(epoch, v)
				wantPut(t, c, epoch, v, n, errno)
				told[errno]++
			case 2, 3:
				n, errno := p.kill(epoch)
				wantKill(t, c, epoch, n, errno)
				told[errno]++
			case 4:
				held := anyHeld(r, p.newest(math.MaxInt))
				n := p.prune(held)
				wantPrune(t, c, held, n)
				went += n
			}
			wantLike(t, c, p)
		}
	}
	if told[api.OK] < 3000 || told[api.ErrArg] < 200 || told[api.ErrOld] < 500 || told[api.ErrGone] < 500 || went < 1000 {
		t.Errorf("%v, %d went: this tests too little", told, went)
	}
}
