package epoch

import (
	"slices"
	"testing"

	"spate/api"
)

// lateBook is so old as no test can make it by sealing: MaxEpoch is 1 << 40.
func lateBook(t *testing.T, now int) *Book {
	t.Helper()
	b, errno := New(2)
	if errno != api.OK {
		t.Fatal(errno)
	}
	b.now = now
	return b
}

// P902, W6: the last epoch is now, but never sealed.
func TestLastEpoch(t *testing.T) {
	const last = 1 << 40
	for name, seal := range map[string]func(*Book, int) (int, api.Errno){"Seal": (*Book).Seal, "Inner": (*Book).Inner} {
		b := lateBook(t, last-1)
		if n, errno := seal(b, 1); n != last-1 || errno != api.OK || b.Now() != last {
			t.Errorf("%s: %d, %v; now %d", name, n, errno, b.Now())
		}
		for range 2 {
			if n, errno := seal(b, 2); n != 0 || errno != api.ErrMany {
				t.Errorf("%s at the bound: %d, %v", name, n, errno)
			}
		}
		if b.Now() != last || !slices.Equal(b.Held(), []int{last - 1}) || b.Live() != 1 {
			t.Errorf("%s at the bound has changed: now %d, held %v", name, b.Now(), b.Held())
		}
		if b.Drop(2) != 0 || b.Done(2) != api.ErrGone || b.Join(2, last) != api.ErrEpoch {
			t.Errorf("%s at the bound gave something", name)
		}
	}
}

// P902, P6: ErrArg, then ErrPins or ErrTwice, then ErrMany.
func TestErrorsAtLastEpoch(t *testing.T) {
	b := lateBook(t, api.MaxEpoch-3)
	b.Seal(1)
	b.Seal(1)
	b.Inner(1)
	want := []api.Errno{api.ErrPins, api.ErrMany, api.ErrTwice, api.ErrMany, api.ErrArg, api.ErrArg}
	var got []api.Errno
	for _, owner := range []int{1, 2} {
		_, errno := b.Seal(owner)
		got = append(got, errno)
	}
	for _, owner := range []int{1, 2, 0} {
		_, errno := b.Inner(owner)
		got = append(got, errno)
	}
	_, errno := b.Seal(65)
	got = append(got, errno)
	if !slices.Equal(got, want) {
		t.Errorf("%v; want %v", got, want)
	}
	if errno := b.Join(2, api.MaxEpoch-3); errno != api.OK {
		t.Errorf("Join at the last epoch: %v", errno)
	}
}
