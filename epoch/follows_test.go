package epoch_test

import (
	"math/rand/v2"
	"slices"
	"testing"

	"spate/api"
	"spate/epoch"
)

// P907, P7: a twin tells the same, and of a book and its twin neither is changed with the other.
func TestTwin(t *testing.T) {
	r := rand.New(rand.NewPCG(2, 2))
	for range 200 {
		x := anyBoth(t, r, r.IntN(80))
		y := x.twin()
		y.same()
		for range 20 {
			x.do(anyCall(r, x.p.now))
			y.same()
		}
		for range 20 {
			y.do(anyCall(r, y.p.now))
			x.same()
		}
		for range 20 {
			x.do(anyCall(r, x.p.now))
			y.do(anyCall(r, y.p.now))
		}
	}
}

// P907: also pins, inner epochs and a sweep that has begun are alike.
func TestTwinOfAll(t *testing.T) {
	b := newBook(t, 3)
	for e := 1; e <= 3; e++ {
		wantSeal(t, b, 1, e, api.OK)
	}
	wantInner(t, b, 2, 4, api.OK)
	b.Release(1, 2)
	wantErrno(t, "Begin", b.Begin(), api.OK)
	b.Release(1, 1)
	twin := b.Twin()
	wantDrop(t, b, 1, 1)
	wantDrop(t, b, 2, 1)
	wantEnd(t, b, 1, api.OK)
	wantBook(t, b, 5, nil, []int{1, 3, 4})

	wantBook(t, twin, 5, []int{3, 4}, []int{1, 2})
	wantErrno(t, "Begin", twin.Begin(), api.ErrTwice)
	wantInner(t, twin, 2, 0, api.ErrTwice)
	wantErrno(t, "Join(2, 3)", twin.Join(2, 3), api.OK)
	wantSeal(t, twin, 1, 5, api.OK)
	wantSeal(t, twin, 1, 6, api.OK)
	wantSeal(t, twin, 1, 0, api.ErrPins)
	wantEnd(t, twin, 1, api.OK)
	wantBook(t, twin, 7, []int{3, 4, 5, 6}, []int{1})
	wantBook(t, b, 5, nil, []int{1, 3, 4})
}

// P907: of a book in which nothing was done, and a twin's twin.
func TestTwinOfNone(t *testing.T) {
	b := newBook(t, 1)
	twin := b.Twin()
	again := twin.Twin()
	wantSeal(t, twin, 1, 1, api.OK)
	wantDrop(t, twin, 1, 1)
	wantErrno(t, "Begin", twin.Begin(), api.OK)
	wantBook(t, b, 1, nil, nil)
	wantBook(t, again, 1, nil, nil)
	wantEnd(t, b, 0, api.ErrGone)
	wantInner(t, again, 64, 1, api.OK)
	wantDrop(t, again, 64, 1)
	wantBook(t, again, 2, nil, []int{1})
}

// P908: Now counts what was sealed; each epoch below it is held, then dying, then no more, one of these alone, and never goes back.
func TestWhatAnEpochIs(t *testing.T) {
	const held, dying, gone = 1, 2, 3
	r := rand.New(rand.NewPCG(3, 3))
	seen := map[[2]int]int{}
	for range 200 {
		b := newBook(t, 1+r.IntN(4))
		sealed, was := 0, []int{}
		for range 200 {
			c := anyCall(r, b.Now())
			if a := ask(b, c); a.errno == api.OK && (c.name == "Seal" || c.name == "Inner") {
				sealed++
				was = append(was, held)
			}
			if b.Now() != 1+sealed {
				t.Fatalf("Now: %d; %d were sealed", b.Now(), sealed)
			}
			is := slices.Repeat([]int{gone}, sealed)
			for _, e := range b.Held() {
				is[e-1] = held
			}
			for _, e := range b.Dying() {
				if is[e-1] == held {
					t.Errorf("%d is held and dying", e)
				}
				is[e-1] = dying
			}
			for i := range is {
				if is[i] < was[i] || is[i] > was[i]+1 {
					t.Errorf("%v: %d was %d, is %d", c, i+1, was[i], is[i])
				}
				seen[[2]int{was[i], is[i]}]++
			}
			was = is
		}
	}
	if seen[[2]int{held, dying}] < 1000 || seen[[2]int{dying, gone}] < 500 || seen[[2]int{gone, gone}] < 1000 {
		t.Errorf("%v: this tests too little", seen)
	}
}

// own is what one owner does: epochs are named by which one of its own it is.
type own struct {
	name  string
	which int
}

// tell lets an owner do that in a book; in between others do what they do. What it heard: errors, counts, and what it holds of its own.
func tell(b *epoch.Book, owner int, all []own, between func(*epoch.Book)) []answer {
	var heard []answer
	var mine []int
	for _, do := range all {
		between(b)
		c := call{do.name, owner, 0}
		if do.which < len(mine) {
			c.epoch = mine[do.which]
		}
		a := ask(b, c)
		if a.errno == api.OK && (c.name == "Seal" || c.name == "Inner") {
			mine = append(mine, a.n)
			a.n = len(mine)
		}
		heard = append(heard, a)
		between(b)
		for i, e := range mine {
			if b.Holds(owner, e) {
				heard = append(heard, answer{n: i})
			}
		}
	}
	return heard
}

// P909: an owner that joins nothing hears, but for the epochs' numbers, what it would hear alone.
func TestOwnersDoNotSeeOneAnother(t *testing.T) {
	r := rand.New(rand.NewPCG(4, 4))
	names := []string{"Seal", "Seal", "Seal", "Release", "Release", "Inner", "Done", "Drop"}
	heardOK, heardErrors := 0, 0
	for range 300 {
		pins := 1 + r.IntN(4)
		owner := []int{1, 2, 3, 64}[r.IntN(4)]
		var all []own
		for range 30 {
			all = append(all, own{names[r.IntN(len(names))], r.IntN(12)})
		}
		alone := tell(newBook(t, pins), owner, all, func(*epoch.Book) {})
		among := tell(newBook(t, pins), owner, all, func(b *epoch.Book) {
			for range r.IntN(4) {
				if c := anyCall(r, b.Now()); c.owner != owner {
					ask(b, c)
				}
			}
		})
		if !slices.Equal(alone, among) {
			t.Fatalf("pins %d, owner %d, %v: %v among others; alone %v", pins, owner, all, among, alone)
		}
		for _, a := range alone {
			if a.errno == api.OK {
				heardOK++
			} else {
				heardErrors++
			}
		}
	}
	if heardOK < 5000 || heardErrors < 1000 {
		t.Errorf("%d, %d errors: this tests too little", heardOK, heardErrors)
	}
}

// P909: by Join, and by which epochs are held, they do: what the other lets go cannot be joined.
func TestOwnersSeeByJoin(t *testing.T) {
	b := newBook(t, 1)
	wantSeal(t, b, 1, 1, api.OK)
	wantErrno(t, "Join(2, 1)", b.Join(2, 1), api.OK)
	wantDrop(t, b, 1, 1)
	if !b.Holds(2, 1) {
		t.Error("what was joined went with the other's Drop")
	}
	wantErrno(t, "Join(1, 1)", b.Join(1, 1), api.OK)
	wantDrop(t, b, 1, 1)
	wantDrop(t, b, 2, 1)
	wantErrno(t, "Join(1, 1)", b.Join(1, 1), api.ErrEpoch)
}

// P2, P5: lists that were answered are nobody else's, their spare room too, and stay what they were.
func TestListsAreNew(t *testing.T) {
	x := newBoth(t, 8)
	for e := 1; e <= 7; e++ {
		x.do(call{"Seal", 1, 0})
	}
	x.do(call{"Inner", 2, 0})
	for _, e := range []int{6, 2} {
		x.do(call{"Release", 1, e})
	}
	x.do(call{"Begin", 0, 0})
	x.do(call{"Release", 1, 4})
	held, dying := x.b.Held(), x.b.Dying()
	lists := [][]int{x.b.Held(), x.b.Dying(), x.b.Held(), x.b.Dying()}
	for _, list := range lists {
		whole := list[:cap(list)]
		for i := range whole {
			whole[i] = -7
		}
	}
	x.same()
	if !slices.Equal(held, []int{1, 3, 5, 7, 8}) || !slices.Equal(dying, []int{2, 4, 6}) {
		t.Errorf("%v, %v: changed with other answers", held, dying)
	}
	for _, e := range held {
		x.do(call{"Release", 1, e})
		x.do(call{"Seal", 3, 0})
	}
	x.do(call{"End", 0, 0})
	if !slices.Equal(held, []int{1, 3, 5, 7, 8}) || !slices.Equal(dying, []int{2, 4, 6}) {
		t.Errorf("%v, %v: changed with the book", held, dying)
	}
}

// P3, P7: two books that are called alike tell the same, and have nothing in common.
func TestTwiceTheSame(t *testing.T) {
	for seed := range uint64(100) {
		a := anyBoth(t, rand.New(rand.NewPCG(seed, 5)), 60)
		other := anyBoth(t, rand.New(rand.NewPCG(seed, 6)), 60)
		b := anyBoth(t, rand.New(rand.NewPCG(seed, 5)), 60)
		both{t, a.b, b.p}.same()
		both{t, b.b, a.p}.same()
		a.do(call{"Begin", 0, 0})
		a.do(call{"End", 0, 0})
		for o := 1; o <= 64; o++ {
			a.do(call{"Drop", o, 0})
		}
		a.do(call{"Seal", 1, 0})
		b.same()
		other.same()
	}
}

// P1, P4: every call ends and none panics, whatever ints it is given; an error changes nothing and stands beside a 0.
func TestWhateverIsGiven(t *testing.T) {
	r := rand.New(rand.NewPCG(7, 7))
	refused := 0
	for range 10 {
		x := anyBoth(t, r, r.IntN(50))
		for _, o := range append(append(noOwners(), edgeInts()...), 1, 2, 64) {
			for _, e := range append(edgeInts(), 1, x.p.now-1, x.p.now) {
				for _, name := range []string{"Join", "Release"} {
					before := x.p.twin()
					if a := x.do(call{name, o, e}); a.errno != api.OK {
						both{t, x.b, before}.same()
						refused++
					}
				}
				if x.b.Holds(o, e) && !isOwner(o) {
					t.Errorf("Holds(%d, %d)", o, e)
				}
			}
			for _, name := range []string{"Inner", "Seal", "Done", "Begin", "End", "Drop"} {
				x.do(call{name, o, 0})
				x.do(call{name, o, 0})
			}
		}
	}
	if refused < 2000 {
		t.Errorf("only %d refused: this tests too little", refused)
	}
}
