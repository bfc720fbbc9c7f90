package locks_test

import (
	"math"
	"math/rand/v2"
	"slices"
	"testing"

	"spate/api"
	"spate/locks"
)

// P1101: how many locks there may be: just those of the manager can be asked for, and nobody has one at first.
func TestNew(t *testing.T) {
	for _, n := range []int{1, 2, 3, 18, 63, 64, 65, 127, 128, 129, 1000, 1023, 1024} {
		m := newManager(t, n)
		wantQueue(t, m)
		wantHas(t, m, 0)
		var all []api.Lock
		for at := range n {
			all = append(all, on(at))
		}
		wantRefused(t, m, 0, api.ErrArg, on(n))
		wantRefused(t, m, 0, api.ErrArg, on(-1))
		wantRefused(t, m, 0, api.ErrArg, append(slices.Clone(all), on(n))...)
		wantAsk(t, m, 0, true, all...)
		wantHas(t, m, 0, all...)
		wantAsk(t, m, 1, false, shared(n-1))
		wantAsk(t, m, 2, false, shared(0))
		wantFree(t, m, 0, 1, 2)
	}
}

// P1101, P4: wrong numbers of locks.
func TestNewErrors(t *testing.T) {
	for _, n := range []int{math.MinInt, -1024, -1, 0, 1025, 1026, 1 << 32, 1<<32 + 1, math.MaxInt} {
		if m, errno := locks.New(n); m != nil || errno != api.ErrArg {
			t.Errorf("New(%d): %v, %v", n, m, errno)
		}
	}
}

// P1102, P1103, P1105: example 1.
func TestExampleOfOrder(t *testing.T) {
	m := newManager(t, 3)
	wantAsk(t, m, 7, true, on(0), shared(1))
	wantAsk(t, m, 8, true, shared(1))
	wantAsk(t, m, 9, false, on(1))
	wantAsk(t, m, 5, false, shared(1))
	wantAsk(t, m, 4, true, on(2))
	wantQueue(t, m, 9, 5)
	wantFree(t, m, 7)
	wantQueue(t, m, 9, 5)
	wantFree(t, m, 8, 9)
	wantQueue(t, m, 5)
	wantHas(t, m, 9, on(1))
	wantFree(t, m, 9, 5)
	wantQueue(t, m)
	wantHas(t, m, 5, shared(1))
	wantHas(t, m, 4, on(2))
}

// P1102, P1103: example 2.
func TestExampleOfErrors(t *testing.T) {
	m := newManager(t, 3)
	wantAsk(t, m, 7, true, on(0))
	wantRefused(t, m, 7, api.ErrHeld, on(1))
	wantFree(t, m, 7)
	wantAsk(t, m, 8, true, on(0))
	wantAsk(t, m, 7, false, on(0))
	wantRefused(t, m, 7, api.ErrHeld, on(1))
	wantQuit(t, m, 7)
	wantRefused(t, m, 7, api.ErrArg, on(3))
	wantRefused(t, m, 7, api.ErrArg, on(1), shared(1))
	wantRefused(t, m, 7, api.ErrArg)
	wantRefused(t, m, -1, api.ErrArg, on(0))
	wantNoFree(t, m, 6)
	wantHas(t, m, 8, on(0))
	wantQueue(t, m)
}

// P1104: example 3.
func TestExampleOfQuit(t *testing.T) {
	m := newManager(t, 3)
	wantAsk(t, m, 7, true, on(0))
	wantAsk(t, m, 8, false, on(0), on(1))
	wantAsk(t, m, 9, false, on(1))
	wantAsk(t, m, 5, true, on(2))
	wantQuit(t, m, 8, 9)
	wantQuit(t, m, 7)
	wantQueue(t, m)
	wantHas(t, m, 7)
	wantHas(t, m, 8)
	wantHas(t, m, 9, on(1))
	wantHas(t, m, 5, on(2))
}

// P1102: two locks conflict just if they are of one number, and not both are shared, whichever is asked for first.
func TestWhatConflicts(t *testing.T) {
	edges := []int{0, 1, 2, 62, 63, 64, 65, 127, 128, 511, 512, 1022, 1023}
	for _, a := range edges {
		for _, b := range edges {
			for _, first := range []api.Lock{on(a), shared(a)} {
				for _, second := range []api.Lock{on(b), shared(b)} {
					m := newManager(t, 1024)
					want := a != b || first.Shared && second.Shared
					wantAsk(t, m, 1, true, first)
					wantAsk(t, m, 2, want, second)
					if want {
						wantFree(t, m, 1)
					} else {
						wantFree(t, m, 1, 2)
					}
					wantHas(t, m, 2, second)
				}
			}
		}
	}
}

// P1102: of sets one lock is enough, wherever in them it stands.
func TestOneLockIsEnough(t *testing.T) {
	m := newManager(t, 200)
	wantAsk(t, m, 1, true, shared(150), on(3), shared(70), on(80))
	wantAsk(t, m, 2, true, shared(150), on(4), shared(70), shared(81))
	wantAsk(t, m, 3, false, shared(150), shared(70), shared(4))
	wantAsk(t, m, 4, false, on(199), shared(150), on(70))
	wantAsk(t, m, 5, true, on(198), shared(81), on(0))
	wantAsk(t, m, 6, false, on(151), shared(199))
	wantQueue(t, m, 3, 4, 6)
	wantFree(t, m, 2, 3)
	wantFree(t, m, 1)
	wantFree(t, m, 5)
	wantFree(t, m, 3, 4)
	wantFree(t, m, 4, 6)
}

// P1102: who only waits is in the way as who has.
func TestWaitersAreInTheWay(t *testing.T) {
	m := newManager(t, 4)
	wantAsk(t, m, 1, true, shared(0))
	wantAsk(t, m, 2, false, on(0), shared(1), on(2))
	wantAsk(t, m, 3, false, shared(0))
	wantAsk(t, m, 4, true, shared(1))
	wantAsk(t, m, 5, false, on(1))
	wantAsk(t, m, 6, false, shared(2))
	wantAsk(t, m, 7, false, shared(1))
	wantAsk(t, m, 8, true, on(3))
	wantQueue(t, m, 2, 3, 5, 6, 7)
	wantFree(t, m, 4)
	wantFree(t, m, 1, 2)
	wantQueue(t, m, 3, 5, 6, 7)
	wantFree(t, m, 2, 3, 5, 6)
	wantFree(t, m, 5, 7)
	wantQueue(t, m)
}

// P1102, P6: ErrArg is told ahead of ErrHeld; what is refused changes nothing (P4).
func TestAskErrors(t *testing.T) {
	for _, n := range []int{1, 2, 64, 100, 1024} {
		x := newBoth(t, n)
		x.do(call{"Ask", 7, []api.Lock{on(0)}})
		x.do(call{"Ask", 8, []api.Lock{shared(n - 1), on(0)}[min(n, 2)-1:]})
		x.do(call{"Ask", 9, []api.Lock{on(0)}})
		for _, task := range []int{0, 7, 8, 9, math.MaxInt} {
			for _, l := range wrongSets(n) {
				if a := x.do(call{"Ask", task, l}); a.errno != api.ErrArg {
					t.Errorf("Ask(%d, %.60v): %v", task, l, a.errno)
				}
			}
		}
		for _, task := range []int{-1, -7, math.MinInt} {
			wantRefused(t, x.m, task, api.ErrArg, on(0))
			wantRefused(t, x.m, task, api.ErrArg, shared(n-1))
			wantRefused(t, x.m, task, api.ErrArg, on(n))
		}
		for _, task := range []int{7, 9} {
			for _, l := range [][]api.Lock{{on(0)}, {shared(0)}, {on(n - 1)}} {
				if a := x.do(call{"Ask", task, l}); a.errno != api.ErrHeld {
					t.Errorf("Ask(%d, %v): %v", task, l, a.errno)
				}
			}
		}
		wantHas(t, x.m, 7, on(0))
		wantFree(t, x.m, 7, x.p.waiting()[0])
	}
}

// P1103: who has no locks is told so: who never asked, waits, was refused, has freed or has quit.
func TestFreeErrors(t *testing.T) {
	m := newManager(t, 2)
	wantAsk(t, m, 1, true, on(0))
	wantAsk(t, m, 2, false, on(0))
	wantAsk(t, m, 3, true, on(1))
	wantRefused(t, m, 4, api.ErrArg, on(2))
	wantFree(t, m, 3)
	for _, task := range []int{2, 3, 4, 0, -1, math.MaxInt, math.MinInt} {
		wantNoFree(t, m, task)
	}
	wantQueue(t, m, 2)
	wantQuit(t, m, 1, 2)
	wantNoFree(t, m, 1)
	wantFree(t, m, 2)
	wantNoFree(t, m, 2)
	wantAsk(t, m, 4, true, on(0), on(1))
}

// P1103: the queue is gone through whole: whom those ahead that wait still are not in the way of, gets its own, also behind some who don't.
func TestGoneThrough(t *testing.T) {
	m := newManager(t, 5)
	wantAsk(t, m, 1, true, on(0), on(1), on(2), on(3))
	wantAsk(t, m, 2, true, on(4))
	wantAsk(t, m, 10, false, on(4), shared(0)) // waits still for 4
	wantAsk(t, m, 11, false, on(0))            // waits still for what 10 waits for
	wantAsk(t, m, 12, false, shared(1))
	wantAsk(t, m, 13, false, shared(0), shared(1)) // waits still: 11 is ahead
	wantAsk(t, m, 14, false, shared(1), on(2))
	wantAsk(t, m, 15, false, on(1)) // waits still: 12 has it by then
	wantAsk(t, m, 16, false, shared(1))
	wantAsk(t, m, 17, false, on(3))
	wantAsk(t, m, 18, false, shared(3))
	wantFree(t, m, 1, 12, 14, 17)
	wantQueue(t, m, 10, 11, 13, 15, 16, 18)
	wantHas(t, m, 14, shared(1), on(2))
	wantFree(t, m, 17, 18)
	wantFree(t, m, 2, 10)
	wantFree(t, m, 10, 11)
	wantFree(t, m, 12)
	wantFree(t, m, 11, 13)
	wantFree(t, m, 14)
	wantFree(t, m, 13, 15)
	wantFree(t, m, 15, 16)
	wantFree(t, m, 16)
	wantFree(t, m, 18)
	wantQueue(t, m)
}

// P1103: of several that share a lock the last one to let it go makes way.
func TestLastOfThoseWhoShare(t *testing.T) {
	m := newManager(t, 1)
	for task := range 10 {
		wantAsk(t, m, task, true, shared(0))
	}
	wantAsk(t, m, 10, false, on(0))
	for task := 11; task < 20; task++ {
		wantAsk(t, m, task, false, shared(0))
	}
	for _, task := range []int{3, 9, 0, 7, 1, 8, 2, 6, 4} {
		wantFree(t, m, task)
	}
	wantFree(t, m, 5, 10)
	wantFree(t, m, 10, 11, 12, 13, 14, 15, 16, 17, 18, 19)
	wantAsk(t, m, 10, false, on(0))
	wantQueue(t, m, 10)
}

// P1104: who waits leaves the queue, at its front, within it and at its end; what it was in the way of goes on.
func TestQuitOfWaiters(t *testing.T) {
	m := newManager(t, 3)
	wantAsk(t, m, 1, true, shared(0))
	wantAsk(t, m, 2, false, on(0), on(1))
	wantAsk(t, m, 3, false, shared(0), on(2))
	wantAsk(t, m, 4, false, on(1))
	wantAsk(t, m, 5, false, shared(2))
	wantAsk(t, m, 6, false, on(0))
	wantQuit(t, m, 6)
	wantQueue(t, m, 2, 3, 4, 5)
	wantQuit(t, m, 3, 5)
	wantQueue(t, m, 2, 4)
	wantAsk(t, m, 3, false, shared(0))
	wantQuit(t, m, 2, 4, 3)
	wantQueue(t, m)
	wantHas(t, m, 2)
	wantHas(t, m, 3, shared(0))
	wantAsk(t, m, 2, false, on(0))
	wantQuit(t, m, 1)
	wantQuit(t, m, 3, 2)
}

// P1104: of who has nothing and waits for nothing it tells and does nothing.
func TestQuitOfNobody(t *testing.T) {
	x := newBoth(t, 2)
	for range 2 {
		for _, task := range []int{0, 1, 5, -1, math.MinInt, math.MaxInt} {
			if a := x.do(call{"Quit", task, nil}); len(a.tasks) != 0 {
				t.Errorf("Quit(%d): %v", task, a.tasks)
			}
		}
		x.do(call{"Ask", 2, []api.Lock{on(0)}})
		x.do(call{"Ask", 3, []api.Lock{on(0), on(1)}})
		x.do(call{"Ask", 4, []api.Lock{on(1)}})
	}
	wantQuit(t, x.m, 3, 4)
	wantQuit(t, x.m, 3)
	wantQuit(t, x.m, 2)
	wantQuit(t, x.m, 2)
}

// P1105: Has tells the locks by their numbers, shared or not, however they were asked for; of who waits none.
func TestHas(t *testing.T) {
	m := newManager(t, 1024)
	wantAsk(t, m, math.MaxInt, true, shared(1023), on(64), shared(63), on(0), on(900), shared(128))
	wantAsk(t, m, 0, false, shared(63), on(0))
	wantAsk(t, m, 1, true, shared(1023), shared(63))
	wantHas(t, m, math.MaxInt, on(0), shared(63), on(64), shared(128), on(900), shared(1023))
	wantHas(t, m, 0)
	wantHas(t, m, 1, shared(63), shared(1023))
	wantFree(t, m, math.MaxInt, 0)
	wantHas(t, m, math.MaxInt)
	wantHas(t, m, 0, on(0), shared(63))
}

// P1105: Waits is told of who waits alone; a task that got its own waits no more, and may wait again at the end.
func TestWaitsAndQueue(t *testing.T) {
	m := newManager(t, 1)
	wantAsk(t, m, 9, true, on(0))
	for _, task := range []int{4, 8, 2, math.MaxInt, 0} {
		wantAsk(t, m, task, false, on(0))
	}
	wantQueue(t, m, 4, 8, 2, math.MaxInt, 0)
	for _, task := range []int{9, 1, -1, math.MinInt} {
		if m.Waits(task) {
			t.Errorf("Waits(%d)", task)
		}
	}
	wantFree(t, m, 9, 4)
	if m.Waits(4) {
		t.Error("4 has its own, and waits")
	}
	wantAsk(t, m, 9, false, on(0))
	wantQuit(t, m, 2)
	wantFree(t, m, 4, 8)
	wantAsk(t, m, 2, false, on(0))
	wantQueue(t, m, math.MaxInt, 0, 9, 2)
}

// P1102 to P1105: four tasks with every four sets of two locks, which go in every order.
func TestEveryFour(t *testing.T) {
	sets, ways := setsOf(2), orders(4)
	waited := 0
	for i := range len(sets) * len(sets) * len(sets) * len(sets) {
		for _, way := range ways {
			x := newBoth(t, 2)
			for task, rest := 0, i; task < 4; task, rest = task+1, rest/len(sets) {
				x.do(call{"Ask", task, sets[rest%len(sets)]})
			}
			waited += len(x.p.queue)
			for _, task := range way {
				x.do(call{"Free", task, nil})
				x.do(call{"Quit", task, nil})
			}
			if t.Failed() {
				t.Fatalf("sets %d, order %v", i, way)
			}
		}
	}
	if waited < 100000 {
		t.Errorf("only %d waited: this tests too little", waited)
	}
}

// P1102 to P1105: whatever is called, by chance, the manager tells what its plain likeness does.
func TestAnyCalls(t *testing.T) {
	r := rand.New(rand.NewPCG(1, 1))
	type told struct {
		name    string
		granted bool
		more    bool // two tasks or more were granted theirs
		errno   api.Errno
	}
	n := map[told]int{}
	for i := range 400 {
		size, tasks := 1+i%7, 3+r.IntN(15)
		x := newBoth(t, size)
		for range 200 {
			c := anyCall(r, size, tasks)
			a := x.do(c)
			n[told{c.name, a.granted, len(a.tasks) > 1, a.errno}]++
		}
	}
	for _, want := range []told{
		{"Ask", true, false, api.OK}, {"Ask", false, false, api.OK}, {"Ask", false, false, api.ErrArg}, {"Ask", false, false, api.ErrHeld},
		{"Free", false, false, api.OK}, {"Free", false, true, api.OK}, {"Free", false, false, api.ErrTask},
		{"Quit", false, false, api.OK}, {"Quit", false, true, api.OK},
	} {
		if n[want] < 100 {
			t.Errorf("%v only %d times: this tests too little", want, n[want])
		}
	}
}
