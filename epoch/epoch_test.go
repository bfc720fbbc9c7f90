package epoch_test

import (
	"math"
	"math/rand/v2"
	"testing"

	"spate/api"
	"spate/epoch"
)

// P901: a book: epoch 1 is now, nobody has any.
func TestNew(t *testing.T) {
	for pins := 1; pins <= 64; pins++ {
		x := newBoth(t, pins)
		wantBook(t, x.b, 1, nil, nil)
		for o := range 70 {
			if x.b.Holds(o, 1) || x.b.Holds(o, 0) || x.b.Drop(o) != 0 {
				t.Errorf("New(%d): owner %d has some", pins, o)
			}
		}
		wantEnd(t, x.b, 0, api.ErrGone)
	}
}

// P901, P4: wrong pins; example 4's end.
func TestNewErrors(t *testing.T) {
	for _, pins := range []int{math.MinInt, -64, -1, 0, 65, 66, 1 << 32, 1<<32 + 1, math.MaxInt} {
		if b, errno := epoch.New(pins); b != nil || errno != api.ErrArg {
			t.Errorf("New(%d): %v, %v", pins, b, errno)
		}
	}
}

// P901 to P906: examples 1 to 3, one behind the other.
func TestExamples(t *testing.T) {
	b := newBook(t, 2)
	wantSeal(t, b, 1, 1, api.OK)
	wantSeal(t, b, 2, 2, api.OK)
	wantErrno(t, "Join(2, 1)", b.Join(2, 1), api.OK)
	wantErrno(t, "Release(1, 1)", b.Release(1, 1), api.OK)
	wantBook(t, b, 3, []int{1, 2}, nil)
	wantErrno(t, "Release(2, 1)", b.Release(2, 1), api.OK)
	wantBook(t, b, 3, []int{2}, []int{1})
	wantErrno(t, "Join(1, 1)", b.Join(1, 1), api.ErrEpoch)

	wantErrno(t, "Begin", b.Begin(), api.OK)
	wantErrno(t, "Release(2, 2)", b.Release(2, 2), api.OK)
	wantBook(t, b, 3, nil, []int{1, 2})
	wantErrno(t, "Begin", b.Begin(), api.ErrTwice)
	wantEnd(t, b, 1, api.OK)
	wantBook(t, b, 3, nil, []int{2})

	wantInner(t, b, 3, 3, api.OK)
	wantErrno(t, "Join(1, 3)", b.Join(1, 3), api.ErrEpoch)
	if b.Holds(3, 3) {
		t.Error("Holds(3, 3)")
	}
	wantBook(t, b, 4, []int{3}, []int{2})
	wantInner(t, b, 3, 0, api.ErrTwice)
	wantErrno(t, "Done(3)", b.Done(3), api.OK)
	wantErrno(t, "Done(3)", b.Done(3), api.ErrGone)
	wantBook(t, b, 4, nil, []int{2, 3})
}

// P902, P903: example 4.
func TestOnePin(t *testing.T) {
	b := newBook(t, 1)
	wantSeal(t, b, 1, 1, api.OK)
	wantSeal(t, b, 1, 0, api.ErrPins)
	wantBook(t, b, 2, []int{1}, nil)
	wantErrno(t, "Join(1, 1)", b.Join(1, 1), api.OK)
	wantSeal(t, b, 0, 0, api.ErrArg)
	wantSeal(t, b, 65, 0, api.ErrArg)
	wantErrno(t, "Release(-1, 1)", b.Release(-1, 1), api.ErrArg)
	wantBook(t, b, 2, []int{1}, nil)
}

// P902: each owner seals just pins epochs, the first and the last owner too; one let go makes room for one more.
func TestSealToTheBound(t *testing.T) {
	for _, pins := range []int{1, 2, 63, 64} {
		b := newBook(t, pins)
		want := 1
		for _, owner := range []int{1, 2, 63, 64} {
			for range pins {
				wantSeal(t, b, owner, want, api.OK)
				if !b.Holds(owner, want) || b.Now() != want+1 {
					t.Errorf("owner %d does not hold %d", owner, want)
				}
				want++
			}
			wantSeal(t, b, owner, 0, api.ErrPins)
			wantErrno(t, "Release", b.Release(owner, want-1), api.OK)
			wantSeal(t, b, owner, want, api.OK)
			want++
			wantSeal(t, b, owner, 0, api.ErrPins)
		}
		if n := len(b.Held()); n != 4*pins || b.Live() != 4*pins+4 || b.Now() != want {
			t.Errorf("pins %d: %d held, %d live, now %d", pins, n, b.Live(), b.Now())
		}
	}
}

// P902: an inner one is beside the set: neither takes the other's room.
func TestInnerBesideTheSet(t *testing.T) {
	b := newBook(t, 1)
	wantInner(t, b, 7, 1, api.OK)
	wantSeal(t, b, 7, 2, api.OK)
	wantSeal(t, b, 7, 0, api.ErrPins)
	wantInner(t, b, 7, 0, api.ErrTwice)
	wantInner(t, b, 64, 3, api.OK)
	wantBook(t, b, 4, []int{1, 2, 3}, nil)
	wantErrno(t, "Done(7)", b.Done(7), api.OK)
	wantSeal(t, b, 7, 0, api.ErrPins)
	wantInner(t, b, 7, 4, api.OK)
	wantErrno(t, "Release(7, 4)", b.Release(7, 4), api.ErrEpoch)
	wantErrno(t, "Release(7, 2)", b.Release(7, 2), api.OK)
	wantInner(t, b, 7, 0, api.ErrTwice)
	wantSeal(t, b, 7, 5, api.OK)
	wantBook(t, b, 6, []int{3, 4, 5}, []int{1, 2})
}

// P902, P903, P4: who is no owner is told so by every call, and nothing else is.
func TestNoOwner(t *testing.T) {
	x := newBoth(t, 1)
	for _, c := range []call{{"Seal", 1, 0}, {"Inner", 1, 0}, {"Inner", 2, 0}, {"Seal", 3, 0}, {"Release", 3, 4}} {
		x.do(c)
	}
	for _, o := range noOwners() {
		for _, e := range []int{1, 2, 4, 9} {
			for _, name := range []string{"Seal", "Inner", "Join", "Release", "Done"} {
				if a := x.do(call{name, o, e}); a != (answer{0, api.ErrArg}) {
					t.Errorf("%s of %d: %v", name, o, a)
				}
			}
			if x.b.Holds(o, e) {
				t.Errorf("Holds(%d, %d)", o, e)
			}
		}
		wantDrop(t, x.b, o, 0)
		x.same()
	}
}

// P901 to P906: whatever is called, by chance, the book tells what its plain likeness does.
func TestAnyCalls(t *testing.T) {
	r := rand.New(rand.NewPCG(1, 1))
	type told struct {
		name  string
		errno api.Errno
	}
	n := map[told]int{}
	dropped, swept := 0, 0
	for range 150 {
		x := newBoth(t, 1+r.IntN(5))
		for range 150 {
			c := anyCall(r, x.p.now)
			a := x.do(c)
			n[told{c.name, a.errno}]++
			if c.name == "Drop" && a.n > 1 {
				dropped++
			}
			if c.name == "End" && a.n > 1 {
				swept++
			}
		}
	}
	for _, want := range []told{
		{"Seal", api.OK}, {"Seal", api.ErrArg}, {"Seal", api.ErrPins},
		{"Inner", api.OK}, {"Inner", api.ErrArg}, {"Inner", api.ErrTwice},
		{"Join", api.OK}, {"Join", api.ErrArg}, {"Join", api.ErrEpoch}, {"Join", api.ErrPins},
		{"Release", api.OK}, {"Release", api.ErrArg}, {"Release", api.ErrEpoch},
		{"Done", api.OK}, {"Done", api.ErrArg}, {"Done", api.ErrGone},
		{"Begin", api.OK}, {"Begin", api.ErrTwice}, {"End", api.OK}, {"End", api.ErrGone},
	} {
		if n[want] < 30 {
			t.Errorf("%v only %d times: this tests too little", want, n[want])
		}
	}
	if dropped < 100 || swept < 100 {
		t.Errorf("%d dropped, %d swept: this tests too little", dropped, swept)
	}
}
