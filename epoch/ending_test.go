package epoch_test

import (
	"testing"

	"spate/api"
)

// P906: a sweep has as its own what is dying when it begins, and no more.
func TestSweep(t *testing.T) {
	b := newBook(t, 8)
	for e := 1; e <= 6; e++ {
		wantSeal(t, b, 1, e, api.OK)
	}
	b.Release(1, 4)
	b.Release(1, 2)
	wantErrno(t, "Begin", b.Begin(), api.OK)
	wantBook(t, b, 7, []int{1, 3, 5, 6}, []int{2, 4})
	wantErrno(t, "Join(2, 4): the sweep's own", b.Join(2, 4), api.ErrEpoch)
	b.Release(1, 3)
	wantInner(t, b, 2, 7, api.OK)
	b.Done(2)
	wantBook(t, b, 8, []int{1, 5, 6}, []int{2, 3, 4, 7})
	wantEnd(t, b, 2, api.OK)
	wantBook(t, b, 8, []int{1, 5, 6}, []int{3, 7})
	wantErrno(t, "Begin", b.Begin(), api.OK)
	wantEnd(t, b, 2, api.OK)
	wantBook(t, b, 8, []int{1, 5, 6}, nil)
	for _, e := range []int{2, 3, 4, 7} {
		wantErrno(t, "Join of what is no more", b.Join(2, e), api.ErrEpoch)
		wantErrno(t, "Release of what is no more", b.Release(1, e), api.ErrEpoch)
	}
}

// P906: one sweep at a time, also where nothing is dying.
func TestSweepOfNothing(t *testing.T) {
	b := newBook(t, 1)
	wantEnd(t, b, 0, api.ErrGone)
	for range 3 {
		wantErrno(t, "Begin", b.Begin(), api.OK)
		wantErrno(t, "Begin again", b.Begin(), api.ErrTwice)
		wantEnd(t, b, 0, api.OK)
		wantEnd(t, b, 0, api.ErrGone)
	}
	wantErrno(t, "Begin", b.Begin(), api.OK)
	wantSeal(t, b, 1, 1, api.OK)
	wantDrop(t, b, 1, 1)
	wantEnd(t, b, 0, api.OK)
	wantBook(t, b, 2, nil, []int{1})
}

// P906, P4: a Begin that is refused gives the sweep nothing more, an End that is refused ends nothing.
func TestSweepRefused(t *testing.T) {
	b := newBook(t, 2)
	wantSeal(t, b, 1, 1, api.OK)
	wantSeal(t, b, 1, 2, api.OK)
	b.Release(1, 1)
	wantEnd(t, b, 0, api.ErrGone)
	wantBook(t, b, 3, []int{2}, []int{1})
	wantErrno(t, "Begin", b.Begin(), api.OK)
	b.Release(1, 2)
	wantErrno(t, "Begin again", b.Begin(), api.ErrTwice)
	wantBook(t, b, 3, nil, []int{1, 2})
	wantEnd(t, b, 1, api.OK)
	wantEnd(t, b, 0, api.ErrGone)
	wantBook(t, b, 3, nil, []int{2})
}
