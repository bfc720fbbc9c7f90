package flow_test

import (
	"math/rand/v2"
	"slices"
	"testing"

	"spate/api"
	"spate/flow"
)

// run is what was put, passed and taken, told by the calls' answers alone.
type run struct {
	put    [][]api.Item
	passed [][]message
	took   [][]message
}

// next does one call by chance, of any kind, and notes what came of it; fill says how often something is put.
func (g *run) next(r *rand.Rand, x both, fill int) {
	source, operator := r.IntN(len(g.put)), r.IntN(len(g.took))
	switch n := r.IntN(20); {
	case n == 0:
		x.put(r.IntN(24)-8, wrongItem(r))
		x.pass(8 + r.IntN(8))
		x.take(-1 - r.IntN(8))
	case n < fill:
		item := anyItem(r, int64(len(g.put[source])))
		if x.put(source, item) == api.OK {
			g.put[source] = append(g.put[source], item)
		}
	case n < 14:
		g.pass(x, source)
	default:
		g.take(x, operator)
	}
}

func (g *run) pass(x both, source int) {
	if len(x.p.queues[source]) == 0 {
		x.pass(source)
		return
	}
	item := x.p.queues[source][0]
	if operator, errno := x.pass(source); errno == api.OK {
		g.passed[operator] = append(g.passed[operator], message{source, item})
	}
}

func (g *run) take(x both, operator int) {
	if m, errno := x.take(operator); errno == api.OK {
		g.took[operator] = append(g.took[operator], m)
	}
}

// of are the items that came from a source.
func of(source int, all []message) []api.Item {
	var items []api.Item
	for _, m := range all {
		if m.source == source {
			items = append(items, m.item)
		}
	}
	return items
}

// owed are the items of a source that an operator must come to take: its keys' events, and all marks.
func owed(x both, operator int, put []api.Item) []api.Item {
	return slices.DeleteFunc(slices.Clone(put), func(item api.Item) bool {
		return !item.Mark && x.p.route(item.Key) != operator
	})
}

// isFront asks whether a list begins with another.
func isFront(front, list []api.Item) bool {
	return len(front) <= len(list) && slices.Equal(front, list[:len(front)])
}

// wantFronts asks P1507's order, and P1508, at any time.
func wantFronts(x both, g *run) {
	x.t.Helper()
	for operator, took := range g.took {
		if len(took) > len(g.passed[operator]) || !slices.Equal(took, g.passed[operator][:len(took)]) {
			x.t.Fatalf("operator %d took %v; passed were %v", operator, took, g.passed[operator])
		}
		for source, put := range g.put {
			if !isFront(of(source, took), owed(x, operator, put)) {
				x.t.Fatalf("operator %d took %v of source %d; put were %v", operator, of(source, took), source, put)
			}
		}
	}
}

// P1502 to P1506, P1507, P1508: whatever is called, by chance, a flow tells what its plain likeness does; what operators take is what was put, in order, and at the end all of it.
func TestAnyCalls(t *testing.T) {
	r := rand.New(rand.NewPCG(1, 1))
	messages, waits := 0, 0
	for range 250 {
		sources, operators := 1+r.IntN(8), 1+r.IntN(8)
		x := newBoth(t, sources, operators, []int{1, 2, 3, 5, 6, 7, 9, 64}[r.IntN(8)])
		g := &run{make([][]api.Item, sources), make([][]message, operators), make([][]message, operators)}
		fill := 4 + r.IntN(8)
		for range 400 {
			g.next(r, x, fill)
		}
		wantFronts(x, g)
		for source := range sources {
			if _, errno := x.pass(source); errno == api.ErrWait {
				waits++
			}
		}
		for operator, rest := range x.drain() {
			took := slices.Concat(g.took[operator], rest)
			messages += len(took)
			for source, put := range g.put {
				if got, want := of(source, took), owed(x, operator, put); !slices.Equal(got, want) {
					t.Fatalf("operator %d took %v of source %d; want %v", operator, got, source, want)
				}
			}
		}
	}
	if messages < 20000 || waits < 200 {
		t.Errorf("%d messages, %d waits: this tests too little", messages, waits)
	}
}

// P1507: like events are told apart by nothing, and yet each comes once.
func TestLikeEvents(t *testing.T) {
	x := newBoth(t, 2, 2, 3)
	for range 50 {
		x.put(0, event("a", 1))
		x.put(1, event("a", 1))
		x.put(1, mark(1))
	}
	took := x.drain()
	if zero, one := took[0], took[1]; len(zero) != 50 || len(of(0, zero)) != 0 || len(one) != 150 || len(of(0, one)) != 50 {
		t.Errorf("%d and %d messages", len(zero), len(one))
	}
}

// P1507: a queue that is gone round while it grows keeps its order, at all places where it may begin and lengths that it may have.
func TestQueueGoesRound(t *testing.T) {
	for begin := range 40 {
		for length := 1; length <= 70; length += 1 + length/8 {
			f := newFlow(t, 1, 1, 1)
			for n := range begin {
				wantPut(t, f, 0, event("k", int64(n)))
				wantPass(t, f, 0, 0)
				wantTake(t, f, 0, 0, event("k", int64(n)))
			}
			wantPut(t, f, 0, numbered("k", begin, length)...)
			for n := range length {
				wantPass(t, f, 0, 0)
				wantTake(t, f, 0, 0, event("k", int64(begin+n)))
			}
			wantNoPass(t, f, 0, api.ErrGone)
		}
	}
}

// P1504, P1507, P1508: likewise a box, of any size.
func TestBoxGoesRound(t *testing.T) {
	for box := 1; box <= 64; box++ {
		for _, begin := range []int{0, 1, 2, 3, 4, 7, box - 1, box, box + 1} {
			f := newFlow(t, 2, 1, box)
			for n := range begin {
				wantPut(t, f, 1, event("k", int64(n)))
				wantPass(t, f, 1, 0)
				wantTake(t, f, 0, 1, event("k", int64(n)))
			}
			for n := range box {
				wantPut(t, f, n%2, event("k", int64(n)))
				wantPass(t, f, n%2, 0)
			}
			wantPut(t, f, 0, mark(5))
			wantNoPass(t, f, 0, api.ErrWait)
			for n := range box {
				wantTake(t, f, 0, n%2, event("k", int64(n)))
			}
			wantPass(t, f, 0, 0)
			wantTake(t, f, 0, 0, mark(5))
			wantNoTake(t, f, 0, api.ErrGone)
		}
	}
}

// P1508: what was put first does not count, but what was passed first.
func TestMixedByPasses(t *testing.T) {
	f := newFlow(t, 3, 2, 8)
	wantPut(t, f, 0, event("c", 1), event("c", 2))
	wantPut(t, f, 1, mark(3))
	wantPut(t, f, 2, event("c", 4), mark(5))
	for _, step := range [][2]int{{2, 0}, {1, 0}, {0, 0}, {2, 0}, {0, 0}, {2, 1}, {1, 1}} {
		wantPass(t, f, step[0], step[1])
	}
	wantTake(t, f, 1, 2, mark(5))
	wantTake(t, f, 1, 1, mark(3))
	for _, m := range []message{{2, event("c", 4)}, {1, mark(3)}, {0, event("c", 1)}, {2, mark(5)}, {0, event("c", 2)}} {
		wantTake(t, f, 0, m.source, m.item)
	}
	wantCounts(t, f, []int{0, 0, 0}, []int{0, 0})
}

// P1: every call ends and none panics, whatever is given; P4: an error changes nothing and stands beside zero values.
func TestWhateverIsGiven(t *testing.T) {
	for _, sources := range anyNumbers() {
		for _, operators := range anyNumbers() {
			for _, box := range append(anyNumbers(), 63, 64, 65) {
				f, errno := flow.New(sources, operators, box)
				if (f == nil) != (errno != api.OK) {
					t.Fatalf("New(%d, %d, %d): %v, %v", sources, operators, box, f, errno)
				}
			}
		}
	}
	x := newBoth(t, 3, 5, 2)
	for _, key := range append(wrongKeys(), rightKeys()...) {
		for _, time := range append(wrongTimes(), rightTimes()...) {
			for n, source := range anyNumbers() {
				x.put(source, api.Item{Mark: n%2 == 0, Key: key, Time: time, Value: time})
				x.put(source, api.Item{Mark: n%2 == 1, Key: key, Time: time})
			}
		}
		x.put(1, mark(4))
		for _, n := range anyNumbers() {
			x.pass(n)
			x.take(n)
		}
	}
}

// P1: a flow that New did not make has no source and no operator.
func TestFlowOfNothing(t *testing.T) {
	f := &flow.Flow{}
	for _, n := range anyNumbers() {
		wantNoPut(t, f, n, event("a", 0), api.ErrArg)
		wantToward(t, f, n, 0, api.ErrArg)
		wantNoPass(t, f, n, api.ErrArg)
		wantNoTake(t, f, n, api.ErrArg)
		if f.Queued(n) != 0 || f.Boxed(n) != 0 {
			t.Errorf("%d: %d, %d", n, f.Queued(n), f.Boxed(n))
		}
	}
	if f.Route("a") != 0 || !f.Empty() {
		t.Errorf("Route: %d; Empty: %v", f.Route("a"), f.Empty())
	}
}

// P2, P5: who changes an item behind Put, or one that Take told, changes nothing in the flow; what was told stays as it was.
func TestItemsAreApart(t *testing.T) {
	f := newFlow(t, 1, 2, 4)
	given := []api.Item{event("a", 1), mark(2), event("a", 3)}
	for i := range given {
		wantPut(t, f, 0, given[i])
		given[i] = event("other", 9)
	}
	for range 4 {
		f.Pass(0)
	}
	var told []api.Item
	for range 3 {
		_, x, _ := f.Take(1)
		told = append(told, x)
		x.Time = 77
		wantPut(t, f, 0, event("a", 8))
		f.Pass(0)
	}
	if want := []api.Item{event("a", 1), mark(2), event("a", 3)}; !slices.Equal(told, want) {
		t.Errorf("%v; want %v", told, want)
	}
	wantTake(t, f, 0, 0, mark(2))
	wantTake(t, f, 1, 0, event("a", 8))
}

// P3, P7: two flows that are called alike tell the same, and have nothing in common with each other or with a third.
func TestTwiceTheSame(t *testing.T) {
	r := rand.New(rand.NewPCG(2, 2))
	for range 100 {
		sources, operators, box := 1+r.IntN(4), 1+r.IntN(4), 1+r.IntN(6)
		one, two := newFlow(t, sources, operators, box), newFlow(t, sources, operators, box)
		other := newFlow(t, sources, operators, box)
		for n := range 200 {
			item, source, operator, kind := anyItem(r, int64(n)), r.IntN(sources+1), r.IntN(operators+1), r.IntN(3)
			first := told(one, kind, source, operator, item)
			told(other, r.IntN(3), r.IntN(sources), r.IntN(operators), anyItem(r, 9))
			second := told(two, kind, source, operator, item)
			if first != second {
				t.Fatalf("%v; %v: not twice the same", first, second)
			}
		}
	}
}

// answers are what a call told, and what stands behind it.
type answers struct {
	operator              int
	m                     message
	errno, why            api.Errno
	toward, queued, boxed int
	empty                 bool
}

func told(f *flow.Flow, kind, source, operator int, item api.Item) answers {
	var a answers
	switch kind {
	case 0:
		a.errno = f.Put(source, item)
	case 1:
		a.operator, a.errno = f.Pass(source)
	default:
		a.m, a.errno = take(f, operator)
	}
	a.toward, a.why = f.Toward(source)
	a.queued, a.boxed, a.empty = f.Queued(source), f.Boxed(operator), f.Empty()
	return a
}
