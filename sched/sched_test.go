package sched_test

import (
	"errors"
	"math"
	"math/rand/v2"
	"slices"
	"testing"

	"spate/api"
	"spate/locks"
	"spate/sched"
)

// P1201: so many locks as New was told can be asked for, and no more; there are no tasks at first.
func TestNew(t *testing.T) {
	for _, n := range []int{1, 2, 3, 18, 64, 65, 1023, 1024} {
		s := newSched(t, n)
		if s.Tasks() != 0 {
			t.Errorf("%d tasks at first", s.Tasks())
		}
		wantNoPick(t, s)
		s.Add(plays(ask(on(n-1)), free()))
		s.Add(plays(ask(on(n))))
		wantRound(t, s, 2)
		wantStates(t, s, api.TReady, api.TEnded)
		wantEnded(t, s, 1, api.ErrArg)
		wantRound(t, s, 1)
		wantLoose(t, s, n)
	}
}

// P1201, P4: numbers of locks that locks.New refuses.
func TestNewErrors(t *testing.T) {
	for _, n := range []int{math.MinInt, -1024, -1, 0, 1025, 1 << 32, 1<<32 + 1, math.MaxInt} {
		_, want := locks.New(n)
		if s, errno := sched.New(n); s != nil || errno != want || errno != api.ErrArg {
			t.Errorf("New(%d): %v, %v", n, s, errno)
		}
	}
}

// P1201: a task's number is how many there were ahead, also behind steps and ends; it is ready at once; one object may be two tasks.
func TestAdd(t *testing.T) {
	s := newSched(t, 1)
	for n := range 100 {
		one := plays()
		if got := s.Add(one); got != n || s.Tasks() != n+1 || s.State(n) != api.TReady || s.Fault(n) != nil {
			t.Fatalf("Add: %d, of %d tasks, state %d", got, s.Tasks(), s.State(n))
		}
		wantReady(t, s, n)
		wantPick(t, s, n, n)
		if s.State(n) != api.TEnded || one.steps != 1 {
			t.Fatalf("state %d behind %d steps", s.State(n), one.steps)
		}
	}
	twice := plays(goOn(), goOn(), goOn(), goOn())
	s.Add(twice)
	s.Add(twice)
	wantReady(t, s, 100, 101)
	wantRound(t, s, 2)
	wantRound(t, s, 2)
	wantReady(t, s, 100, 101)
	if twice.steps != 4 {
		t.Errorf("%d steps", twice.steps)
	}
}

// P1202 to P1204: example 1.
func TestExampleOfPicks(t *testing.T) {
	s := newSched(t, 2)
	a := plays(ask(on(0)), wakes(goOn(), 7), free(), end())
	b := plays(ask(on(0)), free(), wait(7), end())
	s.Add(a)
	s.Add(b)
	wantPick(t, s, 0, 0)
	wantStates(t, s, api.TReady, api.TReady)
	wantPick(t, s, 1, 1)
	wantStates(t, s, api.TReady, api.TLocked)
	wantReady(t, s, 0)
	wantPick(t, s, 5, 0)
	wantStates(t, s, api.TReady, api.TLocked)
	wantPick(t, s, 0, 0)
	wantStates(t, s, api.TReady, api.TReady)
	wantPick(t, s, 1, 1)
	wantPick(t, s, 1, 1)
	wantStates(t, s, api.TReady, api.TWaiting)
	wantPick(t, s, 0, 0)
	wantStates(t, s, api.TEnded, api.TWaiting)
	wantWake(t, s, 7, 1)
	wantPick(t, s, -1, 1)
	wantStates(t, s, api.TEnded, api.TEnded)
	wantNoPick(t, s)
	if a.steps != 4 || b.steps != 4 || s.Fault(0) != nil || s.Fault(1) != nil {
		t.Errorf("%d and %d steps, %v, %v", a.steps, b.steps, s.Fault(0), s.Fault(1))
	}
}

// P1203: example 2.
func TestExampleOfFaults(t *testing.T) {
	s := newSched(t, 2)
	s.Add(plays(ask(on(0)), ask(on(1))))
	s.Add(plays(ask(on(0)), fall()))
	wantRound(t, s, 2)
	wantStates(t, s, api.TReady, api.TLocked)
	wantRound(t, s, 1)
	wantEnded(t, s, 0, api.ErrHeld)
	wantReady(t, s, 1)
	wantRound(t, s, 1)
	wantEnded(t, s, 1, api.ErrTask)
	wantLoose(t, s, 2)
}

// P1202: the place of a pick, of every number of ready tasks, whichever are not ready, for n below 0 too.
func TestPlaceOfPick(t *testing.T) {
	r := rand.New(rand.NewPCG(1, 1))
	for tasks := 1; tasks <= 140; tasks++ {
		s := newSched(t, 1)
		var ready []int
		for n := range tasks {
			if r.IntN(4) == 0 {
				s.Add(plays(wait(0)))
				wantPick(t, s, len(ready), n)
			} else {
				s.Add(does(goOn))
				ready = append(ready, n)
			}
		}
		wantReady(t, s, ready...)
		count := len(ready)
		for at, task := range ready {
			for _, n := range []int{at, at + count, at + 1000*count, at - count, at - 2*count, at - 1000*count} {
				wantPick(t, s, n, task)
			}
		}
		for _, n := range []int{math.MinInt, math.MinInt + 1, math.MaxInt, math.MaxInt - 1, 1 << 32, -1 << 32} {
			if count > 0 {
				wantPick(t, s, n, ready[floorMod(n, count)])
			}
		}
	}
}

// P1202, P4: nobody is ready: there are no tasks, or all wait, or are ended.
func TestNobodyIsReady(t *testing.T) {
	s := newSched(t, 1)
	wantNoPick(t, s)
	s.Add(plays(end()))
	s.Add(plays(fall()))
	wantRound(t, s, 2)
	wantNoPick(t, s)
	s.Add(plays(ask(on(0)), wait(1)))
	s.Add(plays(ask(on(0))))
	wantRound(t, s, 2)
	wantRound(t, s, 1)
	wantStates(t, s, api.TEnded, api.TEnded, api.TWaiting, api.TLocked)
	wantNoPick(t, s)
	wantStates(t, s, api.TEnded, api.TEnded, api.TWaiting, api.TLocked)
}

// P1203: what each kind of move makes of a task that has no locks, and of one that has.
func TestKinds(t *testing.T) {
	for _, c := range []struct {
		move    api.Move
		without int // its state, if it has no locks
		with    int
		why     [2]api.Errno
	}{
		{goOn(), api.TReady, api.TReady, [2]api.Errno{}},
		{ask(on(1)), api.TReady, api.TEnded, [2]api.Errno{api.OK, api.ErrHeld}},
		{ask(on(1), on(2)), api.TEnded, api.TEnded, [2]api.Errno{api.ErrArg, api.ErrArg}},
		{ask(), api.TEnded, api.TEnded, [2]api.Errno{api.ErrArg, api.ErrArg}},
		{free(), api.TEnded, api.TReady, [2]api.Errno{api.ErrTask, api.OK}},
		{wait(0), api.TWaiting, api.TWaiting, [2]api.Errno{}},
		{end(), api.TEnded, api.TEnded, [2]api.Errno{}},
		{fall(), api.TEnded, api.TEnded, [2]api.Errno{api.ErrTask, api.ErrTask}},
		{api.Move{}, api.TEnded, api.TEnded, [2]api.Errno{api.ErrKind, api.ErrKind}},
		{api.Move{Kind: 6}, api.TEnded, api.TEnded, [2]api.Errno{api.ErrKind, api.ErrKind}},
		{api.Move{Kind: -1, Locks: []api.Lock{on(0)}, On: 3}, api.TEnded, api.TEnded, [2]api.Errno{api.ErrKind, api.ErrKind}},
		{api.Move{Kind: math.MinInt}, api.TEnded, api.TEnded, [2]api.Errno{api.ErrKind, api.ErrKind}},
		{api.Move{Kind: math.MaxInt}, api.TEnded, api.TEnded, [2]api.Errno{api.ErrKind, api.ErrKind}},
		{api.Move{Kind: 1<<32 + api.MGo}, api.TEnded, api.TEnded, [2]api.Errno{api.ErrKind, api.ErrKind}},
	} {
		s := newSched(t, 2)
		s.Add(plays(c.move, goOn()))
		s.Add(plays(ask(on(0)), c.move, goOn()))
		wantPick(t, s, 1, 1)
		wantRound(t, s, 2)
		wantStates(t, s, c.without, c.with)
		for task, why := range c.why {
			if why != api.OK {
				wantEnded(t, s, task, why)
			} else if s.Fault(task) != nil {
				t.Errorf("%v: %v", c.move, s.Fault(task))
			}
		}
	}
}

// P1203: fields that a move's kind does not name mean nothing.
func TestFieldsOfOtherKinds(t *testing.T) {
	s := newSched(t, 1)
	for _, kind := range []int{api.MGo, api.MWait, api.MEnd} {
		s.Add(plays(api.Move{Kind: kind, Locks: []api.Lock{on(0), on(9)}, On: 5}))
	}
	s.Add(plays(api.Move{Kind: api.MAsk, Locks: []api.Lock{on(0)}, On: 5}, api.Move{Kind: api.MFree, Locks: []api.Lock{on(9)}, On: 5}, wait(6)))
	wantRound(t, s, 4)
	wantStates(t, s, api.TReady, api.TWaiting, api.TEnded, api.TReady)
	wantRound(t, s, 2)
	wantStates(t, s, api.TEnded, api.TWaiting, api.TEnded, api.TReady)
	wantWake(t, s, 5, 1)
	wantWake(t, s, 0, 0)
	wantLoose(t, s, 1)
}

// P1203: who is not granted its set at once waits for locks, and is ready when others let go what is in its way.
func TestAskAndFree(t *testing.T) {
	s := newSched(t, 3)
	s.Add(plays(ask(on(0), shared(1)), free()))
	s.Add(plays(ask(shared(1)), free()))
	s.Add(plays(ask(on(1)), free()))
	s.Add(plays(ask(shared(1)), free()))
	s.Add(plays(ask(on(2)), free()))
	s.Add(plays(ask(shared(1), on(0)), free()))
	wantRound(t, s, 6)
	wantStates(t, s, api.TReady, api.TReady, api.TLocked, api.TLocked, api.TReady, api.TLocked)
	wantPick(t, s, 0, 0)
	wantReady(t, s, 0, 1, 4)
	wantPick(t, s, 1, 1)
	wantReady(t, s, 0, 1, 2, 4)
	wantPick(t, s, 2, 2)
	wantReady(t, s, 0, 1, 2, 3, 4, 5)
	wantRound(t, s, 6)
	wantStates(t, s, api.TEnded, api.TEnded, api.TEnded, api.TReady, api.TReady, api.TReady)
	wantLoose(t, s, 3)
}

// P1203: the fault of an ask or a free that is refused is locks' own error.
func TestFaultsOfLocks(t *testing.T) {
	m, _ := locks.New(2)
	s := newSched(t, 2)
	wrong := [][]api.Lock{nil, {}, {on(2)}, {on(-1)}, {on(0), on(0)}, {on(0), shared(0)}, {on(math.MaxInt)}, {shared(1), on(math.MinInt)}}
	for task, l := range wrong {
		s.Add(plays(ask(l...)))
		_, want := m.Ask(task, l)
		wantPick(t, s, 0, task)
		wantEnded(t, s, task, api.ErrArg)
		if s.Fault(task) != want {
			t.Errorf("Ask of %v: %v; want %v", l, s.Fault(task), want)
		}
	}
	task := s.Add(plays(free()))
	_, want := m.Free(task)
	wantPick(t, s, 0, task)
	wantEnded(t, s, task, api.ErrTask)
	if s.Fault(task) != want {
		t.Errorf("Free: %v; want %v", s.Fault(task), want)
	}
	task = s.Add(plays(ask(on(0)), ask(on(0))))
	m.Ask(task, []api.Lock{on(0)})
	_, want = m.Ask(task, []api.Lock{on(0)})
	wantPick(t, s, 0, task)
	wantPick(t, s, 0, task)
	wantEnded(t, s, task, api.ErrHeld)
	if s.Fault(task) != want {
		t.Errorf("Ask twice: %v; want %v", s.Fault(task), want)
	}
	task = s.Add(plays(api.Move{Kind: 9}))
	wantPick(t, s, 0, task)
	if s.Fault(task) != api.ErrKind {
		t.Errorf("kind 9: %v", s.Fault(task))
	}
	wantLoose(t, s, 2)
}

// P1203: however a task ends, its locks are let go, and who is granted them is ready.
func TestEndsLetGo(t *testing.T) {
	for _, last := range []api.Move{end(), fall(), {Kind: 6}, {}, ask(on(1)), ask(on(7)), ask()} {
		s := newSched(t, 3)
		s.Add(plays(ask(on(0), shared(1)), last))
		s.Add(plays(ask(shared(0))))
		s.Add(plays(ask(on(2), shared(0))))
		s.Add(plays(ask(on(0))))
		s.Add(plays(ask(on(1))))
		wantRound(t, s, 5)
		wantReady(t, s, 0)
		wantRound(t, s, 1)
		wantStates(t, s, api.TEnded, api.TReady, api.TReady, api.TLocked, api.TReady)
		wantRound(t, s, 3)
		wantStates(t, s, api.TEnded, api.TEnded, api.TEnded, api.TReady, api.TEnded)
		wantRound(t, s, 1)
		wantLoose(t, s, 3)
	}
}

// P1203: a task that is ended without locks changes nothing of the others.
func TestEndsWithoutLocks(t *testing.T) {
	for _, last := range []api.Move{end(), fall(), free(), {Kind: 6}, ask(on(7)), ask()} {
		s := newSched(t, 1)
		s.Add(plays(ask(on(0)), goOn()))
		s.Add(plays(ask(on(0))))
		s.Add(plays(wait(0)))
		s.Add(plays(last))
		wantRound(t, s, 4)
		wantStates(t, s, api.TReady, api.TLocked, api.TWaiting, api.TEnded)
	}
}

// P1203: wakes are done, and ahead of what the kind asks: of every kind, also of a move that ends the task with a fault; a step that panics has none.
func TestWakesOfMoves(t *testing.T) {
	for _, c := range []struct {
		move api.Move
		own  int
	}{
		{goOn(), api.TReady}, {ask(on(1)), api.TReady}, {ask(on(0)), api.TLocked}, {wait(3), api.TWaiting}, {wait(6), api.TWaiting},
		{end(), api.TEnded}, {ask(), api.TEnded}, {free(), api.TEnded}, {api.Move{}, api.TEnded}, {api.Move{Kind: 6}, api.TEnded},
	} {
		s := waiters(t)
		s.Add(plays(wakes(c.move, 3, -4, 3, 9)))
		wantPick(t, s, 0, 5)
		wantStates(t, s, api.TReady, api.TReady, api.TReady, api.TWaiting, api.TWaiting, c.own)
	}
	s := waiters(t)
	s.Add(plays(wakes(fall(), 3, -4)))
	wantPick(t, s, 0, 5)
	wantStates(t, s, api.TWaiting, api.TWaiting, api.TWaiting, api.TWaiting, api.TWaiting, api.TEnded)
}

// waiters is a sched of 2 locks, whose tasks wait at 3, -4, 3, 5, and, with lock 0, at 0.
func waiters(t *testing.T) *sched.Sched {
	t.Helper()
	s := newSched(t, 2)
	for _, at := range []int{3, -4, 3, 5} {
		s.Add(plays(wait(at), goOn(), goOn()))
	}
	s.Add(plays(ask(on(0)), wait(0)))
	wantRound(t, s, 5)
	wantRound(t, s, 1)
	wantStates(t, s, api.TWaiting, api.TWaiting, api.TWaiting, api.TWaiting, api.TWaiting)
	return s
}

// P1203: one move that wakes who waits, and lets go, and one that wakes and ends: both make others ready.
func TestWakesAndGrants(t *testing.T) {
	for _, last := range []api.Move{free(), end(), {}, ask(on(0))} {
		s := newSched(t, 1)
		s.Add(plays(ask(on(0)), wakes(last, 1)))
		s.Add(plays(ask(on(0))))
		s.Add(plays(wait(1)))
		wantRound(t, s, 3)
		wantStates(t, s, api.TReady, api.TLocked, api.TWaiting)
		wantRound(t, s, 1)
		if s.State(1) != api.TReady || s.State(2) != api.TReady {
			t.Errorf("%v: %v", last, states(s))
		}
	}
}

// P1203: a task that waits at a condition keeps its locks; a wake gives it none, and takes none.
func TestWaitsWithLocks(t *testing.T) {
	s := newSched(t, 1)
	s.Add(plays(ask(on(0)), wait(1), goOn(), free()))
	s.Add(plays(ask(shared(0))))
	wantRound(t, s, 2)
	wantRound(t, s, 1)
	wantStates(t, s, api.TWaiting, api.TLocked)
	wantWake(t, s, 1, 1)
	wantStates(t, s, api.TReady, api.TLocked)
	wantRound(t, s, 1)
	wantStates(t, s, api.TReady, api.TLocked)
	wantRound(t, s, 1)
	wantStates(t, s, api.TReady, api.TReady)
}

// badError is an error of which nothing can be asked.
type badError struct{}

func (badError) Error() string { panic("no text") }

func (badError) Is(error) bool { panic("no likeness") }

func (badError) Unwrap() error { panic("nothing inside") }

// P1203: a step that panics, with whatever: the task is ended, with ErrTask and no other number in its fault.
func TestPanics(t *testing.T) {
	var none []int
	var nobody *play
	var noMap map[int]int
	for i, fails := range []func(){
		func() { panic("a text") },
		func() { panic(0) },
		func() { panic(nil) },
		func() { panic(error(nil)) },
		func() { panic(errors.New("an error")) },
		func() { panic(api.ErrHeld) },
		func() { panic(api.ErrKind) },
		func() { panic(api.OK) },
		func() { panic(badError{}) },
		func() { panic(&badError{}) },
		func() { panic([]func(){nil}) },
		func() { _ = none[i0] },
		func() { nobody.steps++ },
		func() { noMap[1] = 1 },
		func() { _ = 1 / i0 },
		func() { _ = none[:i0+1] },
		func() { close(chan int(nil)) },
		func() { _ = any(i0).(string) },
		func() { defer func() { panic("again") }(); panic("once") },
		func() { defer func() { panic(recover()) }(); panic("once") },
	} {
		s := newSched(t, 1)
		s.Add(plays(wait(1)))
		wantPick(t, s, 0, 0)
		asked := false
		s.Add(does(func() api.Move {
			if asked {
				fails()
			}
			asked = true
			return ask(on(0))
		}))
		s.Add(plays(ask(on(0))))
		wantRound(t, s, 2)
		wantStates(t, s, api.TWaiting, api.TReady, api.TLocked)
		wantPick(t, s, 7, 1)
		if s.State(1) != api.TEnded {
			t.Fatalf("panic %d: state %d", i, s.State(1))
		}
		wantEnded(t, s, 1, api.ErrTask)
		wantStates(t, s, api.TWaiting, api.TEnded, api.TReady)
		wantRound(t, s, 1)
		wantLoose(t, s, 1)
	}
}

// i0 is a number that the compiler does not know.
var i0 = len(new(play).moves)

// P1203, P1205: a round goes on behind steps that panic.
func TestPanicsInRounds(t *testing.T) {
	s := newSched(t, 1)
	last := plays(goOn())
	s.Add((*play)(nil))
	s.Add(plays(fall()))
	s.Add(does(func() api.Move { panic(api.ErrArg) }))
	s.Add(last)
	wantRound(t, s, 4)
	for task := range 3 {
		wantEnded(t, s, task, api.ErrTask)
	}
	if last.steps != 1 {
		t.Errorf("%d steps behind panics", last.steps)
	}
	wantReady(t, s, 3)
}

// P1204: who waits at a condition is ready by a Wake of it, and of no other; any int is one; how many there were.
func TestWake(t *testing.T) {
	conditions := []int{0, 1, -1, 7, 1 << 32, -1 << 32, math.MaxInt, math.MinInt}
	for _, at := range conditions {
		s := newSched(t, 1)
		for range 3 {
			for _, other := range conditions {
				s.Add(plays(wait(other), wait(other)))
			}
		}
		wantRound(t, s, 3*len(conditions))
		wantNoPick(t, s)
		wantWake(t, s, at, 3)
		first := slices.Index(conditions, at)
		wantReady(t, s, first, first+len(conditions), first+2*len(conditions))
		wantWake(t, s, at, 0)
		wantPick(t, s, 1, first+len(conditions))
		wantWake(t, s, at, 1)
		wantReady(t, s, first, first+len(conditions), first+2*len(conditions))
		wantWake(t, s, at+5, 0)
	}
}

// P1204: neither who is ready, nor who waits for locks, nor who is ended is woken.
func TestWakeOfOthers(t *testing.T) {
	s := newSched(t, 1)
	s.Add(plays(ask(on(0)), goOn()))
	s.Add(plays(api.Move{Kind: api.MAsk, Locks: []api.Lock{on(0)}, On: 1}))
	s.Add(plays(api.Move{Kind: api.MEnd, On: 1}))
	s.Add(plays(wait(1), goOn()))
	s.Add(plays(wait(1), end()))
	wantRound(t, s, 5)
	wantWake(t, s, 1, 2)
	wantRound(t, s, 3)
	wantWake(t, s, 1, 0)
	wantWake(t, s, 0, 0)
	wantStates(t, s, api.TReady, api.TLocked, api.TEnded, api.TReady, api.TEnded)
}

// P1204: there is neither a state nor a fault of a task that is not; none is ended with a fault that goes on, waits, or ends by itself.
func TestStateAndFault(t *testing.T) {
	s := newSched(t, 1)
	for _, n := range []int{0, 1, -1, math.MinInt, math.MaxInt} {
		if s.State(n) != 0 || s.Fault(n) != nil {
			t.Errorf("task %d: %d, %v", n, s.State(n), s.Fault(n))
		}
	}
	s.Add(plays(ask(on(0)), goOn()))
	s.Add(plays(ask(on(0))))
	s.Add(plays(wait(0)))
	s.Add(plays(end()))
	s.Add(plays(api.Move{Kind: 6}))
	wantRound(t, s, 5)
	wantStates(t, s, api.TReady, api.TLocked, api.TWaiting, api.TEnded, api.TEnded)
	for n := range 4 {
		if s.Fault(n) != nil {
			t.Errorf("Fault(%d): %v", n, s.Fault(n))
		}
	}
	wantEnded(t, s, 4, api.ErrKind)
	for _, n := range []int{5, 6, -1, math.MinInt, math.MaxInt} {
		if s.State(n) != 0 || s.Fault(n) != nil {
			t.Errorf("task %d: %d, %v", n, s.State(n), s.Fault(n))
		}
	}
}

// P1205: those that are ready at the beginning do a step each, in the order of their numbers; who is woken, or granted locks, meanwhile does none.
func TestRound(t *testing.T) {
	s := newSched(t, 1)
	var order []int
	tell := func(moves ...api.Move) {
		n, one := s.Tasks(), plays(moves...)
		s.Add(does(func() api.Move {
			order = append(order, n)
			return one.Step()
		}))
	}
	tell(ask(on(0)), goOn(), free(), goOn())
	tell(wait(1), goOn(), goOn(), goOn())
	tell(ask(on(0)), goOn(), free(), goOn())
	tell(goOn(), wakes(goOn(), 1), goOn(), wait(2))
	tell(wait(1), wait(1), end(), goOn())
	for i, want := range [][]int{{0, 1, 2, 3, 4}, {0, 3}, {0, 1, 3, 4}, {0, 1, 2, 3}, {0, 1, 2}, {1, 2}, {2}, {}} {
		order = nil
		wantRound(t, s, len(want))
		if !slices.Equal(order, want) {
			t.Errorf("round %d: %v; want %v", i, order, want)
		}
	}
	wantStates(t, s, api.TEnded, api.TEnded, api.TEnded, api.TWaiting, api.TWaiting)
}

// P1202 to P1205: two tasks with every two of these moves each; the first four picks in every way, then a wake and rounds.
func TestEveryTwo(t *testing.T) {
	kinds := []api.Move{goOn(), ask(on(0)), ask(shared(0)), free(), wait(1), wakes(goOn(), 1), wakes(wait(1), 1), end(), fall(), {Kind: 6}}
	size := len(kinds)
	ended := 0
	for i := range size * size * size * size {
		a := []api.Move{kinds[i%size], kinds[i/size%size]}
		b := []api.Move{kinds[i/size/size%size], kinds[i/size/size/size]}
		for way := range 1 << 4 {
			x := newBoth(t, 1)
			x.add(a...)
			x.add(b...)
			for at := range 4 {
				x.pick(way >> at & 1)
			}
			x.wake(1)
			for x.round() > 0 {
			}
			for task := range 2 {
				if x.s.State(task) == api.TEnded {
					ended++
				}
			}
		}
	}
	if ended < 200000 {
		t.Errorf("only %d ended: this tests too little", ended)
	}
}

// P1202 to P1205: whatever is called, by chance, the sched tells what its plain likeness does.
func TestAnyCalls(t *testing.T) {
	r := rand.New(rand.NewPCG(2, 2))
	seen := map[int]int{}
	faults := map[api.Errno]int{}
	for range 600 {
		x := anyBoth(t, r, 250)
		for n := range x.s.Tasks() {
			seen[x.s.State(n)]++
			for _, errno := range numbers(x.s.Fault(n)) {
				faults[errno]++
			}
		}
	}
	for _, state := range []int{api.TReady, api.TLocked, api.TWaiting, api.TEnded} {
		if seen[state] < 300 {
			t.Errorf("state %d only %d times: this tests too little", state, seen[state])
		}
	}
	for _, errno := range []api.Errno{api.ErrArg, api.ErrHeld, api.ErrTask, api.ErrKind} {
		if faults[errno] < 100 {
			t.Errorf("fault %v only %d times: this tests too little", errno, faults[errno])
		}
	}
}
