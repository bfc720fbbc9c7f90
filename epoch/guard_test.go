package epoch_test

import (
	"slices"
	"sync"
	"testing"
	"time"

	"spate/api"
	"spate/epoch"
)

// Ways: by the lock that the book embeds all its calls are guarded: none of them ends while another one has it.
func TestCallsAreGuarded(t *testing.T) {
	b := newBook(t, 2)
	calls := map[string]func(){
		"Now":     func() { b.Now() },
		"Seal":    func() { b.Seal(1) },
		"Inner":   func() { b.Inner(1) },
		"Join":    func() { b.Join(1, 1) },
		"Release": func() { b.Release(1, 1) },
		"Done":    func() { b.Done(1) },
		"Drop":    func() { b.Drop(1) },
		"Holds":   func() { b.Holds(1, 1) },
		"Held":    func() { b.Held() },
		"Dying":   func() { b.Dying() },
		"Live":    func() { b.Live() },
		"Begin":   func() { b.Begin() },
		"End":     func() { b.End() },
		"Twin":    func() { b.Twin() },
	}
	ended := make(chan string, len(calls))
	var all sync.WaitGroup
	b.Lock()
	for name, do := range calls {
		all.Go(func() {
			do()
			ended <- name
		})
	}
	time.Sleep(50 * time.Millisecond)
	early := len(ended)
	b.Unlock()
	all.Wait()
	close(ended)
	for name := range ended {
		if early > 0 {
			t.Errorf("%s did not wait", name)
			early--
		}
	}
	if !b.TryLock() {
		t.Fatal("a call kept the lock")
	}
	b.Unlock()
}

// Ways: owners that call at once each get epochs of their own, and nothing is lost.
func TestOwnersAtOnce(t *testing.T) {
	const pins, rounds = 4, 40
	b := newBook(t, pins)
	sealed := make([][]int, 65)
	var all sync.WaitGroup
	for owner := 1; owner <= 64; owner++ {
		all.Go(func() { sealed[owner] = busy(t, b, owner, rounds) })
	}
	all.Wait()
	var numbers []int
	for _, some := range sealed {
		numbers = append(numbers, some...)
	}
	slices.Sort(numbers)
	if len(numbers) != 64*rounds*(pins+1) || b.Now() != len(numbers)+1 {
		t.Fatalf("%d sealed, now %d", len(numbers), b.Now())
	}
	for i, n := range numbers {
		if n != i+1 {
			t.Fatalf("%d is the number of seal %d", n, i+1)
		}
	}
	if held := b.Held(); len(held) != 0 {
		t.Errorf("Held: %v", held)
	}
	b.End()
	b.Begin()
	b.End()
	wantBook(t, b, len(numbers)+1, nil, nil)
}

// busy fills its hand and lets all go, again and again, and sweeps when nobody else does.
func busy(t *testing.T, b *epoch.Book, owner, rounds int) []int {
	var sealed []int
	for range rounds {
		for {
			n, errno := b.Seal(owner)
			if errno != api.OK {
				break
			}
			sealed = append(sealed, n)
			if !b.Holds(owner, n) || n >= b.Now() {
				t.Errorf("%d does not hold %d", owner, n)
			}
		}
		n, errno := b.Inner(owner)
		if errno != api.OK {
			t.Errorf("Inner(%d): %v", owner, errno)
		}
		sealed = append(sealed, n)
		if b.Begin() == api.OK {
			if _, errno := b.End(); errno != api.OK {
				t.Errorf("End: %v", errno)
			}
		}
		if held := b.Held(); !slices.IsSorted(held) || !slices.Contains(held, n) {
			t.Errorf("%v without %d", held, n)
		}
		if b.Done(owner) != api.OK || b.Release(owner, sealed[len(sealed)-2]) != api.OK || b.Drop(owner) != 3 {
			t.Errorf("%d had not what it sealed", owner)
		}
	}
	return sealed
}
