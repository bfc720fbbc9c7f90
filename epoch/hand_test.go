package epoch_test

import (
	"testing"

	"spate/api"
)

// P903: what may be joined: what is in some owner's set, and nothing else.
func TestJoin(t *testing.T) {
	b := newBook(t, 2)
	wantSeal(t, b, 1, 1, api.OK)
	wantInner(t, b, 1, 2, api.OK)
	wantSeal(t, b, 2, 3, api.OK)
	for _, e := range append(edgeInts(), 2, 4, 5) {
		for _, o := range []int{1, 2, 64} {
			wantErrno(t, "Join of none", b.Join(o, e), api.ErrEpoch)
		}
	}
	wantErrno(t, "Join(64, 1)", b.Join(64, 1), api.OK)
	wantErrno(t, "Join(64, 1) again", b.Join(64, 1), api.OK)
	wantErrno(t, "Join(64, 3)", b.Join(64, 3), api.OK)
	if !b.Holds(64, 1) || !b.Holds(64, 3) || b.Holds(64, 2) || !b.Holds(1, 1) || b.Holds(1, 3) {
		t.Error("P905: Holds")
	}
	wantBook(t, b, 4, []int{1, 2, 3}, nil)
	wantErrno(t, "Join(2, 1)", b.Join(2, 1), api.OK)
	wantErrno(t, "Release(1, 1)", b.Release(1, 1), api.OK)
	wantErrno(t, "Release(2, 1)", b.Release(2, 1), api.OK)
	wantErrno(t, "Join(1, 1): the one who joined holds it", b.Join(1, 1), api.OK)
	wantBook(t, b, 4, []int{1, 2, 3}, nil)
}

// P903, P6: ErrArg, ErrEpoch, OK of its own, ErrPins, in this order.
func TestJoinErrors(t *testing.T) {
	b := newBook(t, 1)
	wantSeal(t, b, 1, 1, api.OK)
	wantSeal(t, b, 2, 2, api.OK)
	wantInner(t, b, 2, 3, api.OK)
	wantErrno(t, "Join(0, 9)", b.Join(0, 9), api.ErrArg)
	wantErrno(t, "Join(65, 1)", b.Join(65, 1), api.ErrArg)
	wantErrno(t, "Join(2, 3): its own inner one", b.Join(2, 3), api.ErrEpoch)
	wantErrno(t, "Join(1, 3)", b.Join(1, 3), api.ErrEpoch)
	wantErrno(t, "Join(1, 4): now", b.Join(1, 4), api.ErrEpoch)
	wantErrno(t, "Join(1, 1)", b.Join(1, 1), api.OK)
	wantErrno(t, "Join(1, 2)", b.Join(1, 2), api.ErrPins)
	if b.Holds(1, 2) || !b.Holds(1, 1) {
		t.Error("P4: a refused Join")
	}
	wantErrno(t, "Release(1, 1)", b.Release(1, 1), api.OK)
	wantErrno(t, "Join(1, 1): dying", b.Join(1, 1), api.ErrEpoch)
	wantErrno(t, "Join(1, 2)", b.Join(1, 2), api.OK)
	wantSeal(t, b, 1, 0, api.ErrPins)
	wantBook(t, b, 4, []int{2, 3}, []int{1})
}

// P903, P904: Release of what is in its set alone; what others hold is held on.
func TestRelease(t *testing.T) {
	b := newBook(t, 3)
	for e := 1; e <= 3; e++ {
		wantSeal(t, b, 1, e, api.OK)
	}
	wantInner(t, b, 1, 4, api.OK)
	wantErrno(t, "Join(2, 2)", b.Join(2, 2), api.OK)
	for _, e := range append(edgeInts(), 1, 3, 4, 5) {
		wantErrno(t, "Release(2) of none of its own", b.Release(2, e), api.ErrEpoch)
	}
	wantErrno(t, "Release(1, 4): inner", b.Release(1, 4), api.ErrEpoch)
	wantErrno(t, "Release(1, 2)", b.Release(1, 2), api.OK)
	wantErrno(t, "Release(1, 2) again", b.Release(1, 2), api.ErrEpoch)
	wantBook(t, b, 5, []int{1, 2, 3, 4}, nil)
	wantErrno(t, "Release(1, 3)", b.Release(1, 3), api.OK)
	wantBook(t, b, 5, []int{1, 2, 4}, []int{3})
	wantErrno(t, "Release(2, 2)", b.Release(2, 2), api.OK)
	wantErrno(t, "Release(1, 1)", b.Release(1, 1), api.OK)
	wantBook(t, b, 5, []int{4}, []int{1, 2, 3})
	wantErrno(t, "Release(1, 1): dying", b.Release(1, 1), api.ErrEpoch)
}

// P903: joining one's own does not count twice: one Release lets it go.
func TestJoinedTwice(t *testing.T) {
	b := newBook(t, 2)
	wantSeal(t, b, 1, 1, api.OK)
	wantErrno(t, "Join(1, 1)", b.Join(1, 1), api.OK)
	wantErrno(t, "Join(1, 1)", b.Join(1, 1), api.OK)
	wantSeal(t, b, 1, 2, api.OK)
	wantErrno(t, "Release(1, 1)", b.Release(1, 1), api.OK)
	wantBook(t, b, 3, []int{2}, []int{1})
}

// P903, P904: Done lets just that owner's inner one go.
func TestDone(t *testing.T) {
	b := newBook(t, 1)
	for _, o := range []int{1, 5, 64} {
		wantErrno(t, "Done of none", b.Done(o), api.ErrGone)
	}
	wantSeal(t, b, 1, 1, api.OK)
	wantErrno(t, "Done(1): a set, but no inner one", b.Done(1), api.ErrGone)
	wantInner(t, b, 1, 2, api.OK)
	wantInner(t, b, 2, 3, api.OK)
	wantErrno(t, "Done(1)", b.Done(1), api.OK)
	wantBook(t, b, 4, []int{1, 3}, []int{2})
	wantErrno(t, "Done(1)", b.Done(1), api.ErrGone)
	wantErrno(t, "Done(2)", b.Done(2), api.OK)
	wantBook(t, b, 4, []int{1}, []int{2, 3})
}

// P903, P904: Drop lets its set and its inner one go, and counts also what others hold on.
func TestDrop(t *testing.T) {
	b := newBook(t, 3)
	for e := 1; e <= 3; e++ {
		wantSeal(t, b, 1, e, api.OK)
	}
	wantInner(t, b, 1, 4, api.OK)
	wantErrno(t, "Join(2, 2)", b.Join(2, 2), api.OK)
	wantInner(t, b, 2, 5, api.OK)
	wantDrop(t, b, 3, 0)
	wantDrop(t, b, 1, 4)
	wantBook(t, b, 6, []int{2, 5}, []int{1, 3, 4})
	for e := range 7 {
		if b.Holds(1, e) {
			t.Errorf("Holds(1, %d) behind Drop", e)
		}
	}
	wantDrop(t, b, 1, 0)
	wantErrno(t, "Done(1)", b.Done(1), api.ErrGone)
	wantDrop(t, b, 2, 2)
	wantBook(t, b, 6, nil, []int{1, 2, 3, 4, 5})
	for e := 6; e <= 8; e++ {
		wantSeal(t, b, 1, e, api.OK)
	}
	wantSeal(t, b, 1, 0, api.ErrPins)
	wantInner(t, b, 1, 9, api.OK)
	wantDrop(t, b, 1, 4)
}

// P903: Drop of an inner one alone, and of a set alone.
func TestDropOfOneKind(t *testing.T) {
	b := newBook(t, 2)
	wantInner(t, b, 64, 1, api.OK)
	wantDrop(t, b, 64, 1)
	wantSeal(t, b, 64, 2, api.OK)
	wantSeal(t, b, 64, 3, api.OK)
	wantDrop(t, b, 64, 2)
	wantBook(t, b, 4, nil, []int{1, 2, 3})
}

// P905: many are told rising, each once, however many hold them and in whatever order they go.
func TestToldRising(t *testing.T) {
	b := newBook(t, 64)
	var all []int
	for e := 1; e <= 60; e++ {
		wantSeal(t, b, 1+e%3, e, api.OK)
		all = append(all, e)
	}
	for o := 4; o <= 64; o++ {
		for e := 60; e >= 1; e-- {
			if errno := b.Join(o, e); errno != api.OK {
				t.Fatalf("Join(%d, %d): %v", o, e, errno)
			}
		}
	}
	wantBook(t, b, 61, all, nil)
	for o := 64; o >= 4; o-- {
		wantDrop(t, b, o, 60)
	}
	wantBook(t, b, 61, all, nil)
	for _, e := range []int{59, 2, 31, 1, 60} {
		wantErrno(t, "Release", b.Release(1+e%3, e), api.OK)
	}
	if got := b.Dying(); len(b.Held()) != 55 || len(got) != 5 || got[0] != 1 || got[1] != 2 || got[2] != 31 || got[3] != 59 || got[4] != 60 {
		t.Errorf("Dying: %v", got)
	}
}

// P902, P905: all that can be held: 64 owners with 64 in their sets, and an inner one.
func TestAllThatCanBeHeld(t *testing.T) {
	b := newBook(t, 64)
	for o := 1; o <= 64; o++ {
		for range 64 {
			b.Seal(o)
		}
		b.Inner(o)
		wantSeal(t, b, o, 0, api.ErrPins)
		wantInner(t, b, o, 0, api.ErrTwice)
	}
	held := b.Held()
	if len(held) != 64*65 || b.Live() != 64*65 || b.Now() != 64*65+1 {
		t.Fatalf("%d held, %d live, now %d", len(held), b.Live(), b.Now())
	}
	for i, e := range held {
		if e != i+1 {
			t.Fatalf("Held: %d at %d", e, i)
		}
	}
	for o := 64; o >= 1; o-- {
		wantDrop(t, b, o, 65)
	}
	if dying := b.Dying(); len(dying) != 64*65 || dying[0] != 1 || dying[64*65-1] != 64*65 || len(b.Held()) != 0 {
		t.Errorf("%d dying", len(dying))
	}
}
