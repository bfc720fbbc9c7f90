package sched_test

import (
	"math"
	"math/rand/v2"
	"slices"
	"testing"

	"spate/api"
	"spate/sched"
)

// watched is a sched whose tasks tell of each step, and what they know themselves: the locks that a task has, by its own moves.
type watched struct {
	t    *testing.T
	s    *sched.Sched
	log  []int // who did steps, since it was looked at last
	last []api.Move
	has  [][]api.Lock // what it asked for last; nothing, when it let that go
}

func (w *watched) add(moves ...api.Move) {
	one, n := plays(moves...), len(w.last)
	w.last, w.has = append(w.last, goOn()), append(w.has, nil)
	w.s.Add(does(func() api.Move {
		w.log = append(w.log, n)
		w.last[n] = fall()
		m := one.Step()
		w.last[n] = m
		return m
	}))
}

// settle notes what the last move of a task did to its locks.
func (w *watched) settle(task int) {
	switch m := w.last[task]; {
	case w.s.State(task) == api.TEnded, m.Kind == api.MFree:
		w.has[task] = nil
	case m.Kind == api.MAsk:
		w.has[task] = m.Locks
	}
}

// P1206: of who did no step nothing changes but from TLocked and TWaiting to TReady.
func (w *watched) others(before []int, stepped []int) {
	w.t.Helper()
	for task, was := range before {
		now := w.s.State(task)
		if slices.Contains(stepped, task) || now == was {
			continue
		}
		if now != api.TReady || was != api.TLocked && was != api.TWaiting {
			w.t.Fatalf("task %d, which did no step: from %d to %d", task, was, now)
		}
	}
}

// P1207: who neither asked, nor waits, nor ended is ready; no two tasks have locks that conflict.
func (w *watched) look() {
	w.t.Helper()
	for task, m := range w.last {
		state := w.s.State(task)
		if (m.Kind == api.MGo || m.Kind == api.MFree && w.s.Fault(task) == nil) && state != api.TReady {
			w.t.Fatalf("task %d goes on, and has state %d", task, state)
		}
		if state == api.TLocked && m.Kind != api.MAsk || state == api.TWaiting && m.Kind != api.MWait {
			w.t.Fatalf("task %d moved %v, and has state %d", task, m, state)
		}
		for other := range task {
			if state != api.TLocked && w.s.State(other) != api.TLocked && conflict(w.has[task], w.has[other]) {
				w.t.Fatalf("tasks %d and %d have %v and %v", task, other, w.has[task], w.has[other])
			}
		}
	}
}

func conflict(a, b []api.Lock) bool {
	for _, x := range a {
		for _, y := range b {
			if x.N == y.N && !(x.Shared && y.Shared) {
				return true
			}
		}
	}
	return false
}

// P1206, P1207: a Pick is one step of the task that it tells, which was ready; a Round one of each that was ready; no other call makes a step.
func TestWhoDoesSteps(t *testing.T) {
	r := rand.New(rand.NewPCG(3, 3))
	steps, granted := 0, 0
	for range 400 {
		n := 1 + r.IntN(4)
		w := &watched{t: t, s: newSched(t, n)}
		for range 200 {
			before, ready := states(w.s), w.s.Ready()
			w.log = nil
			var want []int
			switch k := r.IntN(12); {
			case k == 0 && len(before) < 20:
				w.add(anyMoves(r, n, 20+r.IntN(60), 60)...)
			case k == 1:
				w.s.Wake(anyOf(r))
			case k == 2:
				want = ready
				if got := w.s.Round(); got != len(ready) {
					t.Fatalf("Round: %d; %v were ready", got, ready)
				}
			default:
				if task, there := w.s.Pick(int(r.Int32()) - 1<<30); there {
					want = []int{task}
				} else if len(ready) > 0 {
					t.Fatalf("Pick: nobody; %v were ready", ready)
				}
			}
			if !slices.Equal(w.log, want) {
				t.Fatalf("steps of %v; want %v", w.log, want)
			}
			for _, task := range want {
				if before[task] != api.TReady {
					t.Fatalf("task %d did a step, and was not ready: %d", task, before[task])
				}
				w.settle(task)
			}
			w.others(before, want)
			w.look()
			steps += len(want)
			granted += len(slices.DeleteFunc(slices.Clone(before), func(state int) bool { return state != api.TLocked }))
		}
	}
	if steps < 40000 || granted < 10000 {
		t.Errorf("%d steps, %d waited for locks: this tests too little", steps, granted)
	}
}

// P1206: nothing but Pick and Round calls Step.
func TestOthersDoNoSteps(t *testing.T) {
	s := newSched(t, 1)
	one := plays(wait(1))
	s.Add(one)
	for range 10 {
		s.Wake(1)
		s.Ready()
		s.State(0)
		s.Fault(0)
		s.Tasks()
		s.Add(plays())
	}
	if one.steps != 0 {
		t.Fatalf("%d steps", one.steps)
	}
	wantPick(t, s, 0, 0)
	s.Wake(1)
	s.Wake(1)
	if one.steps != 1 || s.State(0) != api.TReady {
		t.Fatalf("%d steps, state %d", one.steps, s.State(0))
	}
}

// turns is a task that asks for a set, goes on for some steps, lets go, for good; it counts how often it got its own.
type turns struct {
	locks []api.Lock
	keeps int // how many steps it goes on with them
	at    int
	got   int
}

func (x *turns) Step() api.Move {
	at := x.at
	x.at = (at + 1) % (x.keeps + 2)
	switch {
	case at == 0:
		return ask(x.locks...)
	case x.at == 0:
		x.got++
		return free()
	}
	return goOn()
}

// P1208: who waits for locks is ready some time, if who has some lets them go and the ready ones are picked, in whatever order: behind those that have or wait for locks, each of which needs a few steps.
func TestWhoWaitsGetsItsOwn(t *testing.T) {
	const tasks, keeps = 12, 3
	r := rand.New(rand.NewPCG(4, 4))
	longest := 0
	for range 60 {
		n := 1 + r.IntN(3)
		s := newSched(t, n)
		for range tasks {
			s.Add(&turns{locks: anySet(r, n), keeps: r.IntN(keeps + 1)})
		}
		waited := make([]int, tasks) // rounds since it was ready
		for range 300 {
			ready := s.Ready()
			if len(ready) == 0 {
				t.Fatalf("nobody is ready: %v", states(s))
			}
			// Each that is ready is picked once, and some others besides.
			r.Shuffle(len(ready), func(i, j int) { ready[i], ready[j] = ready[j], ready[i] })
			for _, task := range ready {
				if at := slices.Index(s.Ready(), task); at >= 0 {
					wantPick(t, s, at, task)
				}
				if r.IntN(4) == 0 {
					s.Pick(r.IntN(tasks))
				}
			}
			for task := range waited {
				if s.State(task) == api.TLocked {
					waited[task]++
				} else {
					waited[task] = 0
				}
				longest = max(longest, waited[task])
				if waited[task] > tasks*(keeps+2) {
					t.Fatalf("task %d waits for %d rounds", task, waited[task])
				}
			}
		}
	}
	if longest < tasks {
		t.Errorf("nobody waited for more than %d rounds: this tests too little", longest)
	}
}

// P1208: those who share a lock, and ask for it again and again, do not keep it from who wants it alone.
func TestNobodyStarves(t *testing.T) {
	s := newSched(t, 2)
	alone := &turns{locks: []api.Lock{on(0)}, keeps: 1}
	all := &turns{locks: []api.Lock{on(0), on(1)}}
	for n := range 8 {
		s.Add(&turns{locks: []api.Lock{shared(0)}, keeps: n})
	}
	s.Add(alone)
	s.Add(all)
	for range 2000 {
		s.Round()
	}
	if alone.got < 60 || all.got < 60 {
		t.Errorf("it got its own %d and %d times", alone.got, all.got)
	}
}

// P1: none of the calls panics, and each ends, whatever numbers it is given.
func TestWhateverIsGiven(t *testing.T) {
	r := rand.New(rand.NewPCG(5, 5))
	edges := []int{math.MinInt, math.MinInt + 1, -1 << 32, -2, -1, 0, 1, 2, 3, 1 << 32, math.MaxInt - 1, math.MaxInt}
	for range 40 {
		x := anyBoth(t, r, r.IntN(60))
		for _, n := range edges {
			x.pick(n)
			x.wake(n)
			x.s.State(n)
			x.s.Fault(n)
			x.add(wait(n), wakes(goOn(), edges...), api.Move{Kind: n, On: n, Locks: []api.Lock{{N: n}}})
			x.round()
		}
		for range 20 {
			x.round()
		}
	}
}

// P4: a call that tells by false that there is nobody, or nothing, changes nothing.
func TestNothingChanges(t *testing.T) {
	r := rand.New(rand.NewPCG(6, 6))
	empty := 0
	for range 300 {
		x := anyBoth(t, r, 30)
		for len(x.p.ready()) > 0 {
			x.pick(r.IntN(9))
		}
		for _, n := range []int{0, 1, -1, math.MinInt, math.MaxInt} {
			if task, there := x.pick(n); there || task != 0 {
				t.Fatalf("Pick(%d): %d, %v", n, task, there)
			}
			x.s.State(n + len(x.plays) + 1)
			x.s.Fault(-1)
			if x.s.Wake(n+77) != 0 {
				t.Fatal("somebody waits where nobody does")
			}
			x.same()
			empty++
		}
	}
	if empty < 1000 {
		t.Errorf("only %d: this tests too little", empty)
	}
}

// P2: a move's lists are neither changed nor kept, their spare room neither: a task may use them again.
func TestWhatMovesHave(t *testing.T) {
	s := newSched(t, 3)
	l := []api.Lock{shared(2), on(0), on(1), shared(1)}
	at := []int{5, 4, 5, 6, 7}
	s.Add(plays(wait(4)))
	s.Add(plays(wait(6)))
	s.Add(plays(ask(l[:2]...), free()))
	s.Add(plays(wakes(ask(l[:3]...), at[:3]...), goOn(), free()))
	wantRound(t, s, 4)
	wantStates(t, s, api.TReady, api.TWaiting, api.TReady, api.TLocked)
	if !slices.Equal(l, []api.Lock{shared(2), on(0), on(1), shared(1)}) || !slices.Equal(at, []int{5, 4, 5, 6, 7}) {
		t.Errorf("%v, %v", l, at)
	}
	clear(l)
	clear(at)
	wantPick(t, s, 1, 2)
	wantStates(t, s, api.TReady, api.TWaiting, api.TReady, api.TReady)
	s.Add(plays(ask(on(1))))
	s.Add(plays(ask(shared(2))))
	wantPick(t, s, 3, 4)
	wantPick(t, s, 3, 5)
	wantStates(t, s, api.TReady, api.TWaiting, api.TReady, api.TReady, api.TLocked, api.TReady)
}

// P2: no list and an empty one are the same in a move.
func TestNilAndEmpty(t *testing.T) {
	for _, l := range [][]api.Lock{nil, {}, make([]api.Lock, 0, 4)} {
		for _, at := range [][]int{nil, {}, make([]int, 0, 4)} {
			s := newSched(t, 1)
			s.Add(plays(wait(0)))
			wantPick(t, s, 0, 0)
			s.Add(plays(wakes(ask(l...), at...)))
			s.Add(plays(api.Move{Kind: api.MGo, Locks: l, Wake: at}))
			wantRound(t, s, 2)
			wantEnded(t, s, 1, api.ErrArg)
			wantStates(t, s, api.TWaiting, api.TEnded, api.TReady)
		}
	}
}

// P2, P5: what Ready told is new memory, its spare room too: who writes into it changes nothing, and it stays what it was.
func TestReadyIsNew(t *testing.T) {
	r := rand.New(rand.NewPCG(7, 7))
	for range 200 {
		x := anyBoth(t, r, 60)
		one, other := x.s.Ready(), x.s.Ready()
		kept := slices.Clone(other)
		whole := one[:cap(one)]
		for i := range whole {
			whole[i] = -7
		}
		x.same()
		for range 10 {
			x.any(r, 1)
		}
		if !slices.Equal(other, kept) {
			t.Fatalf("%v were ready; now the list is %v", kept, other)
		}
	}
}

// P3, P7: two scheds that are called alike tell the same, their faults too, and have nothing in common.
func TestTwiceTheSame(t *testing.T) {
	for seed := range uint64(100) {
		one := anyBoth(t, rand.New(rand.NewPCG(seed, 7)), 80)
		other := anyBoth(t, rand.New(rand.NewPCG(seed, 8)), 80)
		twin := anyBoth(t, rand.New(rand.NewPCG(seed, 7)), 80)
		if !slices.Equal(states(one.s), states(twin.s)) {
			t.Fatalf("%v, then %v", states(one.s), states(twin.s))
		}
		for n := range one.s.Tasks() {
			a, b := one.s.Fault(n), twin.s.Fault(n)
			if a != b || a != one.s.Fault(n) || a != nil && a.Error() != b.Error() {
				t.Errorf("Fault(%d): %v, then %v", n, a, b)
			}
		}
		one.add(ask(on(0)), wait(0))
		for range 30 {
			one.round()
		}
		for at := range 4 {
			one.wake(at)
		}
		twin.same()
		other.same()
	}
}

// P1202 to P1205: many tasks, most of which wait; each pick finds its own, and who waits for one lock is served in the order of asking.
func TestManyTasks(t *testing.T) {
	const tasks, woken = 1 << 16, 1 << 14
	s := newSched(t, 1)
	for n := range tasks {
		s.Add(plays(wait(n%4), wait(9), ask(on(0)), free()))
	}
	wantRound(t, s, tasks)
	wantNoPick(t, s)
	wantWake(t, s, 3, woken)
	for i := woken - 1; i >= 0; i-- {
		wantPick(t, s, -1, i*4+3)
	}
	wantNoPick(t, s)
	wantWake(t, s, 9, woken)
	for i := range woken {
		wantPick(t, s, min(i, 1), i*4+3)
	}
	wantReady(t, s, 3)
	for i := range woken {
		wantPick(t, s, 0, i*4+3)
		wantPick(t, s, 0, i*4+3)
		if s.State(i*4+3) != api.TEnded || s.Fault(i*4+3) != nil {
			t.Fatalf("task %d: %d, %v", i*4+3, s.State(i*4+3), s.Fault(i*4+3))
		}
	}
	wantNoPick(t, s)
	wantLoose(t, s, 1)
}
