package locks_test

import (
	"math"
	"math/rand/v2"
	"slices"
	"testing"

	"spate/api"
	"spate/locks"
)

// seen is what a test knows of a manager without a likeness: what each task asked for last, and when.
type seen struct {
	m    *locks.Manager
	asks map[int][]api.Lock
	when map[int]int
}

// holders are the tasks that have locks, by what Has tells of all that asked.
func (s seen) holders() []int {
	var all []int
	for task := range s.asks {
		if len(s.m.Has(task)) > 0 {
			all = append(all, task)
		}
	}
	slices.Sort(all)
	return all
}

// conflictsWith are those of the tasks whose sets conflict with that of one.
func (s seen) conflictsWith(task int, others []int) []int {
	var all []int
	for _, other := range others {
		if other != task && conflict(s.asks[task], s.asks[other]) {
			all = append(all, other)
		}
	}
	return all
}

// P1106: sets that tasks have do not conflict; each that is waited for conflicts with one that some task has, or that is waited for ahead of it; the first one with one that some task has.
func (s seen) look(t *testing.T) {
	t.Helper()
	has, queue := s.holders(), s.m.Queue()
	for _, task := range has {
		if !slices.Equal(s.m.Has(task), rising(s.asks[task])) {
			t.Fatalf("%d has %v; it asked for %v", task, s.m.Has(task), s.asks[task])
		}
		if with := s.conflictsWith(task, has); len(with) > 0 {
			t.Fatalf("%d and %v have sets that conflict", task, with)
		}
	}
	for i, task := range queue {
		if len(s.conflictsWith(task, has))+len(s.conflictsWith(task, queue[:i])) == 0 {
			t.Fatalf("%d waits for %v, and nobody is in its way", task, s.asks[task])
		}
	}
}

// P1106: in whatever state calls by chance lead to. P1107: nobody is granted a set ahead of an elder ask that conflicts with it and waits.
func TestWhoHasAndWaits(t *testing.T) {
	r := rand.New(rand.NewPCG(2, 2))
	waited, passed := 0, 0
	for range 200 {
		n := 1 + r.IntN(9)
		s := seen{newManager(t, n), map[int][]api.Lock{}, map[int]int{}}
		for now := range 150 {
			c := anyCall(r, n, 12)
			before := s.m.Queue()
			a := ask(t, s.m, c)
			granted := a.tasks
			if c.name == "Ask" && a.errno == api.OK {
				s.asks[c.task], s.when[c.task] = c.l, now
				if a.granted {
					granted = []int{c.task}
				}
			}
			s.look(t)
			for _, task := range granted {
				for _, other := range s.conflictsWith(task, before) {
					if other != c.task && s.when[other] < s.when[task] {
						t.Fatalf("%v: %d has overtaken %d", c, task, other)
					}
				}
				passed += len(s.m.Queue()) - len(s.conflictsWith(task, s.m.Queue()))
			}
			waited += len(s.m.Queue())
		}
	}
	if waited < 10000 || passed < 2000 {
		t.Errorf("%d waited, %d were passed by who is in nobody's way: this tests too little", waited, passed)
	}
}

// P1107: if nobody asks any more, and who has locks frees them, in whatever order, each who waits gets its own: those who had locks, or waited ahead of it, need to free theirs once each at most. (Frees of those behind it whose sets are in nobody's way may come in between.)
func TestEachGetsItsOwn(t *testing.T) {
	r := rand.New(rand.NewPCG(3, 3))
	waited, longest := 0, 0
	for range 500 {
		x := anyBoth(t, r, 60)
		first := map[int][]int{} // by who waits: those who may still free ahead of its turn
		for i, task := range x.m.Queue() {
			first[task] = x.p.waiting()[:i]
			for _, c := range x.p.has {
				first[task] = append(first[task], c.task)
			}
		}
		waited += len(first)
		frees := map[int]int{}
		for len(x.p.has) > 0 {
			task := x.p.has[r.IntN(len(x.p.has))].task
			for waits, ahead := range first {
				if slices.Contains(ahead, task) {
					frees[waits]++
				}
			}
			for _, got := range x.do(call{"Free", task, nil}).tasks {
				if frees[got] > len(first[got]) {
					t.Fatalf("%d got its own behind %d Frees; at most %d were promised", got, frees[got], len(first[got]))
				}
				longest = max(longest, frees[got])
				delete(first, got)
			}
			for waits, ahead := range first {
				if frees[waits] == len(ahead) {
					t.Fatalf("%d waits still behind %d Frees", waits, len(ahead))
				}
			}
		}
		if len(first) > 0 || len(x.m.Queue()) > 0 {
			t.Fatalf("nobody has locks, and %v wait", x.m.Queue())
		}
	}
	if waited < 1000 || longest < 6 {
		t.Errorf("%d waited, %d Frees at most: this tests too little", waited, longest)
	}
}

// P1107: a long row of tasks with one lock is served in the order of asking.
func TestLongRow(t *testing.T) {
	const tasks = 1 << 15
	m := newManager(t, 2)
	wantAsk(t, m, 0, true, on(1))
	for task := 1; task < tasks; task++ {
		wantAsk(t, m, task, false, on(1))
	}
	for task := range tasks - 1 {
		wantFree(t, m, task, task+1)
	}
	wantFree(t, m, tasks-1)
	wantQueue(t, m)
}

// P1103, P1107: many that share, behind one who does not.
func TestManyWhoShare(t *testing.T) {
	const tasks = 1 << 16
	m := newManager(t, 1024)
	for task := range tasks {
		wantAsk(t, m, task, true, shared(1000), shared(task%999))
	}
	wantAsk(t, m, tasks, false, on(1000))
	for task := range tasks {
		wantAsk(t, m, tasks+1+task, false, shared(1000))
	}
	for task := range tasks - 1 {
		wantFree(t, m, task)
	}
	wantFree(t, m, tasks-1, tasks)
	got, err := m.Free(tasks)
	if err != nil || len(got) != tasks || !slices.IsSorted(got) || got[0] != tasks+1 {
		t.Errorf("%d got theirs, %v", len(got), err)
	}
	wantQueue(t, m)
}

// renamed has its own numbers for tasks and locks.
type renamed struct {
	tasks map[int]int
	locks []int
}

func (n renamed) call(c call) call {
	other := call{name: c.name, task: n.tasks[c.task]}
	for _, l := range c.l {
		other.l = append(other.l, api.Lock{N: n.locks[l.N], Shared: l.Shared})
	}
	return other
}

func (n renamed) tasksOf(all []int) []int {
	var others []int
	for _, task := range all {
		others = append(others, n.tasks[task])
	}
	return others
}

// P1108: with other numbers for tasks and locks all is told of the others as of the ones; Has tells the locks rising.
func TestNamesAlone(t *testing.T) {
	r := rand.New(rand.NewPCG(4, 4))
	names := []int{0, math.MaxInt, 1, 1 << 40, 63, 64, 1023, 1024, 2, math.MaxInt - 1, 1 << 31, 77}
	got := 0
	for range 200 {
		n := 1 + r.IntN(8)
		as := renamed{map[int]int{}, r.Perm(1024)[:n]}
		for task, at := range r.Perm(len(names)) {
			as.tasks[task] = names[at]
		}
		one, other := newManager(t, n), newManager(t, 1024)
		for range 150 {
			c := call{[]string{"Ask", "Ask", "Ask", "Free", "Quit"}[r.IntN(5)], r.IntN(len(names)), nil}
			if c.name == "Ask" {
				c.l = anySet(r, n)
			}
			a, b := ask(t, one, c), ask(t, other, as.call(c))
			got += len(a.tasks)
			a.tasks = as.tasksOf(a.tasks)
			if !a.same(b) || !slices.Equal(as.tasksOf(one.Queue()), other.Queue()) {
				t.Fatalf("%v: %v; with other names %v", c, a, b)
			}
			for task := range names {
				has := as.call(call{l: one.Has(task)}).l
				if one.Waits(task) != other.Waits(as.tasks[task]) || !slices.Equal(rising(has), other.Has(as.tasks[task])) {
					t.Fatalf("%d: %v; with other names %v", task, has, other.Has(as.tasks[task]))
				}
			}
		}
	}
	if got < 1000 {
		t.Errorf("only %d got theirs: this tests too little", got)
	}
}

// P1, P4: every call ends and none panics, whatever is given; an error changes nothing and stands beside zero values.
func TestWhateverIsGiven(t *testing.T) {
	r := rand.New(rand.NewPCG(5, 5))
	refused := 0
	for range 40 {
		x := anyBoth(t, r, r.IntN(60))
		for _, task := range []int{math.MinInt, -1, 0, 1, 2, 3, 1 << 32, math.MaxInt} {
			for _, l := range append(wrongSets(x.p.locks), []api.Lock{on(0)}) {
				before := x.p.twin()
				if a := x.do(call{"Ask", task, l}); a.errno != api.OK {
					both{t, x.m, before}.same()
					if a.granted {
						t.Errorf("Ask(%d, %.60v): true beside %v", task, l, a.errno)
					}
					refused++
				}
			}
			before := x.p.twin()
			if a := x.do(call{"Free", task, nil}); a.errno != api.OK {
				both{t, x.m, before}.same()
				refused++
			}
			x.do(call{"Quit", task, nil})
		}
		for len(x.p.has) > 0 {
			x.do(call{"Free", x.p.has[0].task, nil})
		}
	}
	if refused < 5000 {
		t.Errorf("only %d refused: this tests too little", refused)
	}
}

// P2: a set that is handed in is neither changed nor kept, its spare room neither.
func TestWhatIsHandedIn(t *testing.T) {
	m := newManager(t, 3)
	l := []api.Lock{shared(2), on(0), on(1), shared(1)}
	wantAsk(t, m, 1, true, l[:2]...)
	wantAsk(t, m, 2, false, l[:3]...)
	wantRefused(t, m, 3, api.ErrArg, l...)
	wantRefused(t, m, 1, api.ErrHeld, l[:3]...)
	if !slices.Equal(l, []api.Lock{shared(2), on(0), on(1), shared(1)}) {
		t.Errorf("%v", l)
	}
	clear(l)
	wantHas(t, m, 1, on(0), shared(2))
	wantFree(t, m, 1, 2)
	wantHas(t, m, 2, on(0), on(1), shared(2))
}

// P2: an empty set is none, whether it is nil or has room.
func TestNilAndEmpty(t *testing.T) {
	m := newManager(t, 3)
	for _, l := range [][]api.Lock{nil, {}, make([]api.Lock, 0, 4)} {
		wantRefused(t, m, 1, api.ErrArg, l...)
	}
}

// spoil writes over all of a list.
func spoil(list []int) {
	whole := list[:cap(list)]
	for i := range whole {
		whole[i] = -7
	}
}

// P2: an answer is new memory, its spare room too: who writes into it changes neither the manager nor other answers.
func TestAnswersAreNew(t *testing.T) {
	r := rand.New(rand.NewPCG(6, 6))
	for range 200 {
		x := anyBoth(t, r, 50)
		queue, again := x.m.Queue(), x.m.Queue()
		spoil(queue)
		if !slices.Equal(again, x.p.waiting()) {
			t.Fatalf("Queue: %v; want %v", again, x.p.waiting())
		}
		for _, task := range x.p.tasks() {
			one, other := x.m.Has(task), x.m.Has(task)
			clear(one[:cap(one)])
			if !slices.Equal(other, x.p.locksOf(task)) {
				t.Fatalf("Has(%d): %v", task, other)
			}
		}
		x.same()
		for _, task := range x.p.tasks() {
			granted := x.m.Quit(task)
			if want := x.p.quit(task); !slices.Equal(granted, want) {
				t.Fatalf("Quit(%d): %v; want %v", task, granted, want)
			}
			spoil(granted)
			x.same()
		}
	}
}

// P5: lists that were answered stay what they were, whatever is done to the manager.
func TestListsStay(t *testing.T) {
	m := newManager(t, 2)
	wantAsk(t, m, 1, true, on(0), shared(1))
	for task := 2; task < 8; task++ {
		wantAsk(t, m, task, false, shared(0))
	}
	wantAsk(t, m, 8, false, on(0))
	wantAsk(t, m, 9, false, on(0))
	has, queue := m.Has(1), m.Queue()
	granted, _ := m.Free(1)
	left := m.Queue()
	for task := range 10 {
		m.Quit(task)
	}
	wantAsk(t, m, 1, true, shared(1))
	for task := 10; task < 30; task++ {
		m.Ask(task, []api.Lock{on(0), on(1)})
	}
	if !slices.Equal(has, []api.Lock{on(0), shared(1)}) || !slices.Equal(queue, []int{2, 3, 4, 5, 6, 7, 8, 9}) || !slices.Equal(granted, []int{2, 3, 4, 5, 6, 7}) || !slices.Equal(left, []int{8, 9}) {
		t.Errorf("%v, %v, %v, %v", has, queue, granted, left)
	}
}

// P3, P7: two managers that are called alike tell the same, their errors too, and have nothing in common.
func TestTwiceTheSame(t *testing.T) {
	for seed := range uint64(100) {
		one := anyBoth(t, rand.New(rand.NewPCG(seed, 7)), 60)
		other := anyBoth(t, rand.New(rand.NewPCG(seed, 8)), 60)
		twin := anyBoth(t, rand.New(rand.NewPCG(seed, 7)), 60)
		both{t, one.m, twin.p}.same()
		both{t, twin.m, one.p}.same()
		for _, task := range []int{-1, 0, 1, 2} {
			_, err := one.m.Ask(task, nil)
			_, same := twin.m.Ask(task, nil)
			if err != same || err.Error() != same.Error() {
				t.Errorf("%v, then %v", err, same)
			}
		}
		for _, task := range one.p.tasks() {
			one.do(call{"Quit", task, nil})
		}
		one.do(call{"Ask", 99, []api.Lock{on(0)}})
		twin.same()
		other.same()
	}
}
