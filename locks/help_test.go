package locks_test

import (
	"errors"
	"fmt"
	"math"
	"math/rand/v2"
	"slices"
	"testing"

	"spate/api"
	"spate/locks"
)

// on and shared are locks, alone and shared.
func on(n int) api.Lock { return api.Lock{N: n} }

func shared(n int) api.Lock { return api.Lock{N: n, Shared: true} }

// claim is a task with the set that it has, or waits for.
type claim struct {
	task int
	l    []api.Lock
}

// plain is a manager as the promises say it: lists, of which each lock is held against each.
type plain struct {
	locks      int
	has, queue []claim
}

func (p *plain) twin() *plain {
	return &plain{p.locks, slices.Clone(p.has), slices.Clone(p.queue)}
}

func conflict(a, b []api.Lock) bool {
	for _, x := range a {
		for _, y := range b {
			if x.N == y.N && !(x.Shared && y.Shared) {
				return true
			}
		}
	}
	return false
}

// inTheWay tells whether one of these conflicts with a set.
func inTheWay(claims []claim, l []api.Lock) bool {
	return slices.ContainsFunc(claims, func(c claim) bool { return conflict(c.l, l) })
}

func find(claims []claim, task int) int {
	return slices.IndexFunc(claims, func(c claim) bool { return c.task == task })
}

func (p *plain) maySet(l []api.Lock) bool {
	for i, x := range l {
		for _, y := range l[:i] {
			if x.N == y.N {
				return false
			}
		}
		if x.N < 0 || x.N >= p.locks {
			return false
		}
	}
	return len(l) > 0
}

func (p *plain) ask(task int, l []api.Lock) (bool, api.Errno) {
	if task < 0 || !p.maySet(l) {
		return false, api.ErrArg
	}
	if find(p.has, task) >= 0 || find(p.queue, task) >= 0 {
		return false, api.ErrHeld
	}
	own := claim{task, slices.Clone(l)}
	if inTheWay(p.has, l) || inTheWay(p.queue, l) {
		p.queue = append(p.queue, own)
		return false, api.OK
	}
	p.has = append(p.has, own)
	return true, api.OK
}

func (p *plain) free(task int) ([]int, api.Errno) {
	at := find(p.has, task)
	if at < 0 {
		return nil, api.ErrTask
	}
	p.has = slices.Delete(slices.Clone(p.has), at, at+1)
	return p.through(), api.OK
}

func (p *plain) quit(task int) []int {
	if got, errno := p.free(task); errno == api.OK {
		return got
	}
	at := find(p.queue, task)
	if at < 0 {
		return nil
	}
	p.queue = slices.Delete(slices.Clone(p.queue), at, at+1)
	return p.through()
}

func (p *plain) through() []int {
	var got []int
	var still []claim
	for _, c := range p.queue {
		if inTheWay(p.has, c.l) || inTheWay(still, c.l) {
			still = append(still, c)
		} else {
			p.has = append(p.has, c)
			got = append(got, c.task)
		}
	}
	p.queue = still
	return got
}

func (p *plain) locksOf(task int) []api.Lock {
	at := find(p.has, task)
	if at < 0 {
		return nil
	}
	return rising(p.has[at].l)
}

func rising(l []api.Lock) []api.Lock {
	l = slices.Clone(l)
	slices.SortFunc(l, func(x, y api.Lock) int { return x.N - y.N })
	return l
}

func (p *plain) waiting() []int {
	var all []int
	for _, c := range p.queue {
		all = append(all, c.task)
	}
	return all
}

// tasks are all that have or want something.
func (p *plain) tasks() []int {
	all := p.waiting()
	for _, c := range p.has {
		all = append(all, c.task)
	}
	return all
}

func newManager(t *testing.T, n int) *locks.Manager {
	t.Helper()
	m, errno := locks.New(n)
	if errno != api.OK || m == nil {
		t.Fatalf("New(%d): %v, %v", n, m, errno)
	}
	return m
}

// both is a manager and its plain likeness; what is called is called of both, and held against each other.
type both struct {
	t *testing.T
	m *locks.Manager
	p *plain
}

func newBoth(t *testing.T, n int) both {
	t.Helper()
	return both{t, newManager(t, n), &plain{locks: n}}
}

// call is one of a manager; l is used by Ask alone.
type call struct {
	name string
	task int
	l    []api.Lock
}

// answer is what a call told, as far as it tells it.
type answer struct {
	granted bool
	tasks   []int
	errno   api.Errno
}

func (a answer) same(b answer) bool {
	return a.granted == b.granted && slices.Equal(a.tasks, b.tasks) && a.errno == b.errno
}

// number tells which number an error wraps; it must be the only one that is found in it.
func number(t *testing.T, err error) api.Errno {
	t.Helper()
	if err == nil {
		return api.OK
	}
	var found []api.Errno
	for n := api.OK; n < 100; n++ {
		if errors.Is(err, n) {
			found = append(found, n)
		}
	}
	var as api.Errno
	if len(found) != 1 || found[0] == api.OK || !errors.As(err, &as) || as != found[0] || err.Error() == "" {
		t.Fatalf("error %v: %v found in it", err, found)
	}
	return as
}

func ask(t *testing.T, m *locks.Manager, c call) answer {
	t.Helper()
	var a answer
	var err error
	switch c.name {
	case "Ask":
		a.granted, err = m.Ask(c.task, c.l)
	case "Free":
		a.tasks, err = m.Free(c.task)
	case "Quit":
		a.tasks = m.Quit(c.task)
	}
	a.errno = number(t, err)
	return a
}

func (p *plain) call(c call) answer {
	var a answer
	switch c.name {
	case "Ask":
		a.granted, a.errno = p.ask(c.task, c.l)
	case "Free":
		a.tasks, a.errno = p.free(c.task)
	case "Quit":
		a.tasks = p.quit(c.task)
	}
	return a
}

// do calls, and looks at all that the manager tells behind it.
func (x both) do(c call) answer {
	x.t.Helper()
	known := append(x.p.tasks(), c.task)
	got, want := ask(x.t, x.m, c), x.p.call(c)
	if !got.same(want) {
		x.t.Fatalf("%v: %v; want %v", c, got, want)
	}
	x.same(known...)
	return got
}

// same looks at all that the manager tells; also of tasks that are not, or no more.
func (x both) same(known ...int) {
	x.t.Helper()
	if got, want := x.m.Queue(), x.p.waiting(); !slices.Equal(got, want) {
		x.t.Fatalf("Queue: %v; want %v", got, want)
	}
	for _, task := range slices.Concat(known, x.p.tasks(), []int{-1, 0, 1, math.MinInt, math.MaxInt}) {
		if got, want := x.m.Has(task), x.p.locksOf(task); !slices.Equal(got, want) {
			x.t.Fatalf("Has(%d): %v; want %v", task, got, want)
		}
		if got, want := x.m.Waits(task), find(x.p.queue, task) >= 0; got != want {
			x.t.Fatalf("Waits(%d): %v", task, got)
		}
	}
}

func wantAsk(t *testing.T, m *locks.Manager, task int, want bool, l ...api.Lock) {
	t.Helper()
	if granted, err := m.Ask(task, l); granted != want || err != nil {
		t.Errorf("Ask(%d, %v): %v, %v; want %v", task, l, granted, err, want)
	}
}

func wantRefused(t *testing.T, m *locks.Manager, task int, why api.Errno, l ...api.Lock) {
	t.Helper()
	granted, err := m.Ask(task, l)
	if granted || number(t, err) != why {
		t.Errorf("Ask(%d, %v): %v, %v; want %v", task, l, granted, err, why)
	}
}

func wantFree(t *testing.T, m *locks.Manager, task int, want ...int) {
	t.Helper()
	if got, err := m.Free(task); !slices.Equal(got, want) || err != nil {
		t.Errorf("Free(%d): %v, %v; want %v", task, got, err, want)
	}
}

func wantNoFree(t *testing.T, m *locks.Manager, task int) {
	t.Helper()
	got, err := m.Free(task)
	if len(got) != 0 || number(t, err) != api.ErrTask {
		t.Errorf("Free(%d): %v, %v; want %v", task, got, err, api.ErrTask)
	}
}

func wantQuit(t *testing.T, m *locks.Manager, task int, want ...int) {
	t.Helper()
	if got := m.Quit(task); !slices.Equal(got, want) {
		t.Errorf("Quit(%d): %v; want %v", task, got, want)
	}
}

func wantHas(t *testing.T, m *locks.Manager, task int, want ...api.Lock) {
	t.Helper()
	if got := m.Has(task); !slices.Equal(got, want) {
		t.Errorf("Has(%d): %v; want %v", task, got, want)
	}
}

// wantQueue holds Queue and Waits against what is asked.
func wantQueue(t *testing.T, m *locks.Manager, want ...int) {
	t.Helper()
	if got := m.Queue(); !slices.Equal(got, want) {
		t.Errorf("Queue: %v; want %v", got, want)
	}
	for _, task := range want {
		if !m.Waits(task) {
			t.Errorf("%d is in the queue, and does not wait", task)
		}
		wantHas(t, m, task)
	}
}

// anySet has some of the locks 0 to n - 1, in any order.
func anySet(r *rand.Rand, n int) []api.Lock {
	var l []api.Lock
	for _, at := range r.Perm(n)[:1+r.IntN(min(n, 4))] {
		l = append(l, api.Lock{N: at, Shared: r.IntN(2) == 0})
	}
	return l
}

// wrongSets are none of a manager of n locks.
func wrongSets(n int) [][]api.Lock {
	return [][]api.Lock{
		nil, {}, {on(-1)}, {on(n)}, {shared(n)}, {on(0), on(0)}, {on(0), shared(0)}, {shared(0), shared(0)}, {shared(0), on(0)},
		{on(0), on(n)}, {shared(n), on(0)}, {on(n - 1), on(n), on(n - 1)}, {on(n), on(n)},
		{on(math.MinInt)}, {on(math.MaxInt)}, {on(1024)}, {on(-64)}, {on(1 << 32)}, {shared(-1 << 63)}, {on(0), on(-1 << 32)},
		slices.Repeat([]api.Lock{shared(0)}, 2000), make([]api.Lock, 1<<16),
	}
}

// anyCall is mostly of few tasks, and of sets that may be.
func anyCall(r *rand.Rand, n, tasks int) call {
	c := call{[]string{"Ask", "Ask", "Ask", "Ask", "Free", "Free", "Quit"}[r.IntN(7)], r.IntN(tasks), nil}
	if r.IntN(30) == 0 {
		c.task = []int{-1, math.MinInt, math.MaxInt, 1 << 32}[r.IntN(4)]
	}
	if c.name == "Ask" {
		c.l = anySet(r, n)
		if r.IntN(20) == 0 {
			wrong := wrongSets(n)
			c.l = wrong[r.IntN(len(wrong))]
		}
	}
	return c
}

// anyBoth has been through so many calls.
func anyBoth(t *testing.T, r *rand.Rand, calls int) both {
	t.Helper()
	n := 1 + r.IntN(6)
	x := newBoth(t, n)
	for range calls {
		c := anyCall(r, n, 10)
		if got, want := ask(t, x.m, c), x.p.call(c); !got.same(want) {
			t.Fatalf("%v: %v; want %v", c, got, want)
		}
	}
	x.same()
	return x
}

// setsOf are all sets of the locks 0 to n - 1.
func setsOf(n int) [][]api.Lock {
	all := [][]api.Lock{nil}
	for at := range n {
		for _, l := range all {
			all = append(all, append(slices.Clone(l), on(at)), append(slices.Clone(l), shared(at)))
		}
	}
	return all[1:]
}

// orders are all orders of 0 to n - 1.
func orders(n int) [][]int {
	if n == 0 {
		return [][]int{nil}
	}
	var all [][]int
	for _, rest := range orders(n - 1) {
		for at := range n {
			all = append(all, slices.Insert(slices.Clone(rest), at, n-1))
		}
	}
	return all
}

func (c call) String() string { return fmt.Sprintf("%s(%d, %.60v)", c.name, c.task, fmt.Sprint(c.l)) }
