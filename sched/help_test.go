package sched_test

import (
	"errors"
	"math"
	"math/rand/v2"
	"slices"
	"testing"

	"spate/api"
	"spate/locks"
	"spate/sched"
)

// on and shared are locks, alone and shared.
func on(n int) api.Lock { return api.Lock{N: n} }

func shared(n int) api.Lock { return api.Lock{N: n, Shared: true} }

// The moves of a task; wakes is one that wakes conditions besides.
func goOn() api.Move { return api.Move{Kind: api.MGo} }

func ask(l ...api.Lock) api.Move { return api.Move{Kind: api.MAsk, Locks: l} }

func free() api.Move { return api.Move{Kind: api.MFree} }

func wait(at int) api.Move { return api.Move{Kind: api.MWait, On: at} }

func end() api.Move { return api.Move{Kind: api.MEnd} }

func wakes(m api.Move, conditions ...int) api.Move {
	m.Wake = conditions
	return m
}

// falls is the kind of a step that panics; it is none of a move that is made.
const falls = -1234

func fall() api.Move { return api.Move{Kind: falls} }

// play makes these moves, one behind the other, and ends behind them.
type play struct {
	moves []api.Move
	steps int
}

func plays(moves ...api.Move) *play { return &play{moves: moves} }

func (p *play) Step() api.Move {
	p.steps++
	if p.steps > len(p.moves) {
		return end()
	}
	m := p.moves[p.steps-1]
	if m.Kind == falls {
		panic("falls")
	}
	return m
}

// does is a task that is a function.
type does func() api.Move

func (d does) Step() api.Move { return d() }

// plain is a sched as the promises say it: all tasks are looked at for everything.
type plain struct {
	locks *locks.Manager
	tasks []*plainTask
}

type plainTask struct {
	moves []api.Move
	steps int
	state int
	at    int // the condition at which it waits
	fault error
}

// errFell stands for whatever a task whose step panicked is ended with.
var errFell = errors.New("fell")

func newPlain(t *testing.T, n int) *plain {
	t.Helper()
	m, errno := locks.New(n)
	if errno != api.OK {
		t.Fatal(errno)
	}
	return &plain{locks: m}
}

func (p *plain) add(moves []api.Move) {
	p.tasks = append(p.tasks, &plainTask{moves: moves, state: api.TReady})
}

func (p *plain) ready() []int {
	var all []int
	for n, x := range p.tasks {
		if x.state == api.TReady {
			all = append(all, n)
		}
	}
	return all
}

func (p *plain) wake(at int) int {
	woken := 0
	for _, x := range p.tasks {
		if x.state == api.TWaiting && x.at == at {
			x.state = api.TReady
			woken++
		}
	}
	return woken
}

// floorMod is n modulo r, without a remainder of a number below 0.
func floorMod(n, r int) int {
	if n >= 0 {
		return n % r
	}
	return r - 1 - (-(n + 1))%r
}

func (p *plain) pick(n int) (int, bool) {
	ready := p.ready()
	if len(ready) == 0 {
		return 0, false
	}
	task := ready[floorMod(n, len(ready))]
	p.step(task)
	return task, true
}

func (p *plain) round() int {
	steps := 0
	for _, task := range p.ready() {
		if p.tasks[task].state == api.TReady {
			p.step(task)
			steps++
		}
	}
	return steps
}

func (p *plain) step(task int) {
	x := p.tasks[task]
	m := end()
	if x.steps < len(x.moves) {
		m = x.moves[x.steps]
	}
	x.steps++
	var granted []int
	ended := false
	if m.Kind == falls {
		x.fault, ended = errFell, true
	} else {
		for _, at := range m.Wake {
			p.wake(at)
		}
		granted, ended, x.fault = p.kind(task, m)
	}
	if ended {
		x.state = api.TEnded
		granted = p.locks.Quit(task)
	}
	for _, other := range granted {
		p.tasks[other].state = api.TReady
	}
}

// kind does a move by its kind: who is granted locks by it, and whether and with what it ends the task.
func (p *plain) kind(task int, m api.Move) (granted []int, ended bool, fault error) {
	x := p.tasks[task]
	var err error
	switch m.Kind {
	case api.MGo:
	case api.MAsk:
		var atOnce bool
		if atOnce, err = p.locks.Ask(task, m.Locks); err == nil && !atOnce {
			x.state = api.TLocked
		}
	case api.MFree:
		granted, err = p.locks.Free(task)
	case api.MWait:
		x.state, x.at = api.TWaiting, m.On
	case api.MEnd:
		return nil, true, nil
	default:
		return nil, true, api.ErrKind
	}
	return granted, err != nil, err
}

func newSched(t *testing.T, n int) *sched.Sched {
	t.Helper()
	s, errno := sched.New(n)
	if errno != api.OK || s == nil {
		t.Fatalf("New(%d): %v, %v", n, s, errno)
	}
	return s
}

// both is a sched and its plain likeness, whose tasks make the same moves; what is called is called of both, and held against each other.
type both struct {
	t     *testing.T
	s     *sched.Sched
	p     *plain
	plays []*play
}

func newBoth(t *testing.T, n int) *both {
	t.Helper()
	return &both{t: t, s: newSched(t, n), p: newPlain(t, n)}
}

func (x *both) add(moves ...api.Move) {
	x.t.Helper()
	one := plays(moves...)
	x.plays = append(x.plays, one)
	if n := x.s.Add(one); n != len(x.p.tasks) {
		x.t.Fatalf("Add: %d; want %d", n, len(x.p.tasks))
	}
	x.p.add(moves)
	x.same()
}

func (x *both) pick(n int) (int, bool) {
	x.t.Helper()
	task, there := x.s.Pick(n)
	if want, ok := x.p.pick(n); task != want || there != ok {
		x.t.Fatalf("Pick(%d): %d, %v; want %d, %v", n, task, there, want, ok)
	}
	x.same()
	return task, there
}

func (x *both) wake(at int) int {
	x.t.Helper()
	n := x.s.Wake(at)
	if want := x.p.wake(at); n != want {
		x.t.Fatalf("Wake(%d): %d; want %d", at, n, want)
	}
	x.same()
	return n
}

func (x *both) round() int {
	x.t.Helper()
	n := x.s.Round()
	if want := x.p.round(); n != want {
		x.t.Fatalf("Round: %d; want %d", n, want)
	}
	x.same()
	return n
}

// same looks at all that the sched tells, and at how many steps each task did; also of tasks that are not.
func (x *both) same() {
	x.t.Helper()
	if got, want := x.s.Ready(), x.p.ready(); !slices.Equal(got, want) {
		x.t.Fatalf("Ready: %v; want %v", got, want)
	}
	if n := x.s.Tasks(); n != len(x.p.tasks) {
		x.t.Fatalf("Tasks: %d; want %d", n, len(x.p.tasks))
	}
	for n, want := range x.p.tasks {
		if got := x.s.State(n); got != want.state {
			x.t.Fatalf("State(%d): %d; want %d", n, got, want.state)
		}
		if got := x.s.Fault(n); !sameFault(got, want.fault) {
			x.t.Fatalf("Fault(%d): %v; want %v", n, got, want.fault)
		}
		if got := x.plays[n].steps; got != want.steps {
			x.t.Fatalf("task %d did %d steps; want %d", n, got, want.steps)
		}
	}
	for _, n := range []int{-1, len(x.p.tasks), math.MinInt, math.MaxInt} {
		if state, fault := x.s.State(n), x.s.Fault(n); state != 0 || fault != nil {
			x.t.Fatalf("task %d: %d, %v", n, state, fault)
		}
	}
}

func sameFault(got, want error) bool {
	if want == errFell {
		return slices.Equal(numbers(got), []api.Errno{api.ErrTask})
	}
	return got == want
}

// numbers are those that errors.Is finds in an error.
func numbers(err error) []api.Errno {
	var found []api.Errno
	for n := api.OK; n < 100; n++ {
		if errors.Is(err, n) {
			found = append(found, n)
		}
	}
	return found
}

func wantPick(t *testing.T, s *sched.Sched, n, want int) {
	t.Helper()
	if task, there := s.Pick(n); task != want || !there {
		t.Errorf("Pick(%d): %d, %v; want %d", n, task, there, want)
	}
}

func wantNoPick(t *testing.T, s *sched.Sched) {
	t.Helper()
	for _, n := range []int{0, 1, -1, math.MinInt, math.MaxInt} {
		if task, there := s.Pick(n); task != 0 || there {
			t.Errorf("Pick(%d): %d, %v; nobody is ready", n, task, there)
		}
	}
	if n := s.Round(); n != 0 {
		t.Errorf("Round: %d; nobody is ready", n)
	}
	wantReady(t, s)
}

func wantReady(t *testing.T, s *sched.Sched, want ...int) {
	t.Helper()
	if got := s.Ready(); !slices.Equal(got, want) {
		t.Errorf("Ready: %v; want %v", got, want)
	}
}

func wantStates(t *testing.T, s *sched.Sched, want ...int) {
	t.Helper()
	got := states(s)
	if !slices.Equal(got, want) {
		t.Errorf("states %v; want %v", got, want)
	}
}

func states(s *sched.Sched) []int {
	var all []int
	for n := range s.Tasks() {
		all = append(all, s.State(n))
	}
	return all
}

func wantWake(t *testing.T, s *sched.Sched, at, want int) {
	t.Helper()
	if n := s.Wake(at); n != want {
		t.Errorf("Wake(%d): %d; want %d", at, n, want)
	}
}

func wantRound(t *testing.T, s *sched.Sched, want int) {
	t.Helper()
	if n := s.Round(); n != want {
		t.Errorf("Round: %d steps; want %d", n, want)
	}
}

// wantEnded looks for a task that was ended with an error in which just this number is found.
func wantEnded(t *testing.T, s *sched.Sched, task int, why api.Errno) {
	t.Helper()
	fault := s.Fault(task)
	if s.State(task) != api.TEnded || !slices.Equal(numbers(fault), []api.Errno{why}) || fault.Error() == "" {
		t.Errorf("task %d: state %d, fault %v; want %v", task, s.State(task), fault, why)
	}
}

// wantLoose looks whether nobody has, or waits for, one of so many locks: one more task is granted all at once.
func wantLoose(t *testing.T, s *sched.Sched, n int) {
	t.Helper()
	var all []api.Lock
	for at := range n {
		all = append(all, on(at))
	}
	own := s.Add(plays(ask(all...), free(), end()))
	for range 3 {
		if s.State(own) != api.TReady {
			t.Fatalf("task %d: state %d: some task has locks still", own, s.State(own))
		}
		wantPick(t, s, slices.Index(s.Ready(), own), own)
	}
	if s.State(own) != api.TEnded || s.Fault(own) != nil {
		t.Errorf("task %d: %d, %v", own, s.State(own), s.Fault(own))
	}
}

// anySet has some of the locks 0 to n - 1, in any order.
func anySet(r *rand.Rand, n int) []api.Lock {
	var l []api.Lock
	for _, at := range r.Perm(n)[:1+r.IntN(min(n, 3))] {
		l = append(l, api.Lock{N: at, Shared: r.IntN(2) == 0})
	}
	return l
}

// anyOf are few conditions, some far off.
func anyOf(r *rand.Rand) int {
	return []int{0, 1, 2, 3, -1, math.MinInt, math.MaxInt}[r.IntN(7)]
}

// wrongMove is one that ends a task with a fault.
func wrongMove(r *rand.Rand, n int, has bool) api.Move {
	wrong := []api.Move{
		fall(), ask(), ask(on(n)), ask(on(-1)), ask(on(0), shared(0)), {}, {Kind: 6}, {Kind: -1}, {Kind: math.MaxInt}, {Kind: math.MinInt, Locks: []api.Lock{on(0)}, On: 1},
	}
	if has {
		wrong = append(wrong, ask(on(0)), ask(shared(n-1)))
	} else {
		wrong = append(wrong, free())
	}
	return wrong[r.IntN(len(wrong))]
}

// anyMoves are mostly right ones: who has no locks asks, who has some lets them go; one in faults is wrong, if that is not 0.
func anyMoves(r *rand.Rand, n, length, faults int) []api.Move {
	var all []api.Move
	has := false
	for range length {
		m := goOn()
		switch k := r.IntN(8); {
		case faults > 0 && r.IntN(faults) == 0:
			m = wrongMove(r, n, has)
		case k < 2 && r.IntN(3) == 0:
			m = wait(anyOf(r))
		case k < 6 && has:
			m, has = free(), false
		case k < 6:
			m, has = ask(anySet(r, n)...), true
		}
		for r.IntN(3) == 0 {
			m.Wake = append(m.Wake, anyOf(r))
		}
		all = append(all, m)
	}
	return all
}

// anyBoth has some tasks, and has been through so many calls.
func anyBoth(t *testing.T, r *rand.Rand, calls int) *both {
	t.Helper()
	n := 1 + r.IntN(4)
	x := newBoth(t, n)
	for range calls {
		x.any(r, n)
	}
	return x
}

// any calls something, mostly Pick.
func (x *both) any(r *rand.Rand, n int) {
	x.t.Helper()
	switch k := r.IntN(20); {
	case k < 2 && len(x.plays) < 40:
		x.add(anyMoves(r, n, r.IntN(30), 30)...)
	case k < 4:
		x.wake(anyOf(r))
	case k < 5:
		x.round()
	default:
		x.pick([]int{r.IntN(50), -r.IntN(50), int(r.Uint64()), math.MinInt, math.MaxInt}[r.IntN(5)])
	}
}
