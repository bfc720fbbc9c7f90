package flow_test

import (
	"math"
	"slices"
	"strings"
	"testing"

	"spate/api"
	"spate/flow"
)

// P1501: just so many sources, operators, messages in a box, and all is empty.
func TestNew(t *testing.T) {
	for sources := 1; sources <= 8; sources++ {
		for operators := 1; operators <= 8; operators++ {
			for _, box := range []int{1, 2, 3, 5, 63, 64} {
				x := newBoth(t, sources, operators, box)
				x.same()
				if !x.f.Empty() {
					t.Errorf("New(%d, %d, %d): not empty", sources, operators, box)
				}
				wantNoPut(t, x.f, sources, event("a", 0), api.ErrArg)
				wantNoTake(t, x.f, operators, api.ErrArg)
				wantNoTake(t, x.f, operators-1, api.ErrGone)
				wantRoom(x, sources-1, box)
			}
		}
	}
}

// wantRoom asks that each box takes just so many messages.
func wantRoom(x both, source, box int) {
	x.t.Helper()
	for range box + 1 {
		x.put(source, mark(7))
	}
	for n := range box * len(x.p.boxes) {
		if operator, errno := x.pass(source); operator != n%len(x.p.boxes) || errno != api.OK {
			x.t.Errorf("mark %d: %d, %v", n, operator, errno)
		}
	}
	if _, errno := x.pass(source); errno != api.ErrWait {
		x.t.Errorf("a box of %d has room for more: %v", box, errno)
	}
}

// P1501, P4: wrong numbers, each alone and with others.
func TestNewErrors(t *testing.T) {
	wrongTasks := []int{0, 9, -1, 10, 16, 64, -8, 1 << 32, 1<<32 + 1, math.MinInt, math.MaxInt}
	wrongBoxes := []int{0, 65, -1, 66, 128, -64, 1 << 32, 1<<32 + 1, math.MinInt, math.MaxInt}
	want := func(sources, operators, box int) {
		t.Helper()
		if f, errno := flow.New(sources, operators, box); f != nil || errno != api.ErrArg {
			t.Errorf("New(%d, %d, %d): %v, %v", sources, operators, box, f, errno)
		}
	}
	for _, n := range wrongTasks {
		for _, right := range []int{1, 8} {
			want(n, right, right)
			want(right, n, right)
			want(n, right, 64)
			want(right, n, 64)
		}
		for _, box := range wrongBoxes {
			want(1, 8, box)
			want(8, 1, box)
			want(n, 1, box)
			want(1, n, box)
			want(n, n, box)
		}
		want(n, n, 1)
	}
}

// P1502 to P1506: example 1, and on to its end.
func TestExampleOfItems(t *testing.T) {
	f := newFlow(t, 2, 2, 1)
	wantPut(t, f, 0, event("c", 1), mark(5), event("a", 2))
	wantCounts(t, f, []int{3, 0}, []int{0, 0})
	wantPass(t, f, 0, 0)
	wantToward(t, f, 0, 0, api.OK)
	wantNoPass(t, f, 0, api.ErrWait)
	wantCounts(t, f, []int{2, 0}, []int{1, 0})
	wantTake(t, f, 0, 0, event("c", 1))
	wantPass(t, f, 0, 0)
	wantCounts(t, f, []int{2, 0}, []int{1, 0})
	wantPass(t, f, 0, 1)
	wantCounts(t, f, []int{1, 0}, []int{1, 1})
	wantToward(t, f, 0, 1, api.OK)
	wantNoPass(t, f, 0, api.ErrWait)
	wantTake(t, f, 1, 0, mark(5))
	wantPass(t, f, 0, 1)
	wantToward(t, f, 0, 0, api.ErrGone)
	wantTake(t, f, 1, 0, event("a", 2))
	wantCounts(t, f, []int{0, 0}, []int{1, 0})
	wantTake(t, f, 0, 0, mark(5))
	wantCounts(t, f, []int{0, 0}, []int{0, 0})
}

// P1502, P1505: example 2.
func TestExampleOfErrors(t *testing.T) {
	f := newFlow(t, 2, 2, 1)
	wantNoPut(t, f, 0, api.Item{Mark: true, Key: "a"}, api.ErrField)
	wantNoPut(t, f, 2, event("a", 0), api.ErrArg)
	wantNoPut(t, f, 0, api.Item{}, api.ErrKey)
	wantNoPut(t, f, 0, event("a", 1<<60+1), api.ErrTime)
	wantNoTake(t, f, 2, api.ErrArg)
	wantNoTake(t, f, 0, api.ErrGone)
	wantNoTake(t, f, 1, api.ErrGone)
	wantCounts(t, f, []int{0, 0}, []int{0, 0})
}

// P1502: what is wrong of an event, alone and with others: the first error counts. P4: nothing is put.
func TestPutOfWrongEvents(t *testing.T) {
	x := newBoth(t, 2, 2, 1)
	x.put(1, event("a", 3))
	for _, value := range values() {
		for _, key := range wrongKeys() {
			for _, time := range append(rightTimes(), wrongTimes()...) {
				wantNoPut(t, x.f, 1, api.Item{Key: key, Time: time, Value: value}, api.ErrKey)
				wantNoPut(t, x.f, 2, api.Item{Key: key, Time: time, Value: value}, api.ErrArg)
			}
		}
		for _, key := range rightKeys() {
			for _, time := range wrongTimes() {
				wantNoPut(t, x.f, 1, api.Item{Key: key, Time: time, Value: value}, api.ErrTime)
				wantNoPut(t, x.f, -1, api.Item{Key: key, Time: time, Value: value}, api.ErrArg)
			}
		}
	}
	x.same()
	x.drain()
}

// P1502: what is wrong of a mark: a time that is none is ahead of a key or a value.
func TestPutOfWrongMarks(t *testing.T) {
	x := newBoth(t, 2, 2, 1)
	x.put(0, mark(3))
	for _, key := range append(append(wrongKeys(), rightKeys()...), "") {
		for _, value := range values() {
			for _, time := range wrongTimes() {
				wantNoPut(t, x.f, 0, api.Item{Mark: true, Key: key, Time: time, Value: value}, api.ErrTime)
				wantNoPut(t, x.f, 2, api.Item{Mark: true, Key: key, Time: time, Value: value}, api.ErrArg)
			}
			if key == "" && value == 0 {
				continue
			}
			for _, time := range rightTimes() {
				wantNoPut(t, x.f, 0, api.Item{Mark: true, Key: key, Time: time, Value: value}, api.ErrField)
				wantNoPut(t, x.f, -2, api.Item{Mark: true, Key: key, Time: time, Value: value}, api.ErrArg)
			}
		}
	}
	x.same()
	x.drain()
}

// P1502: sources that are not, whatever is put.
func TestPutIntoNone(t *testing.T) {
	x := newBoth(t, 8, 1, 1)
	for _, source := range anyNumbers() {
		if source >= 0 && source < 8 {
			continue
		}
		for _, item := range []api.Item{event("a", 0), mark(0), {}, event("a", 1<<61), {Mark: true, Value: 2}} {
			wantNoPut(t, x.f, source, item, api.ErrArg)
		}
	}
	x.same()
}

// P1502, P1505: whatever may be put comes out as it was.
func TestPutToTheBounds(t *testing.T) {
	x := newBoth(t, 1, 3, 2)
	n := 0
	for _, time := range rightTimes() {
		x.put(0, mark(time))
		n += 3
		for _, key := range rightKeys() {
			for _, value := range values() {
				x.put(0, api.Item{Key: key, Time: time, Value: value})
				n++
			}
		}
	}
	for _, took := range x.drain() {
		n -= len(took)
	}
	if n != 0 {
		t.Errorf("%d messages are not taken", n)
	}
}

// P1502: MaxFeed items are a full queue, of this source alone; ErrMany is behind all other errors; a mark that some have counts.
func TestPutTooMany(t *testing.T) {
	f := newFlow(t, 2, 2, 2)
	wantPut(t, f, 0, mark(-1))
	wantPut(t, f, 0, numbered("c", 1, 1<<16-1)...)
	full := func() {
		t.Helper()
		wantCounts(t, f, []int{1 << 16, 1}, []int{f.Boxed(0), f.Boxed(1)})
		for range 2 {
			wantNoPut(t, f, 0, event("c", 0), api.ErrMany)
			wantNoPut(t, f, 0, mark(0), api.ErrMany)
			wantNoPut(t, f, 0, event("", 0), api.ErrKey)
			wantNoPut(t, f, 0, event("c", 1<<60+1), api.ErrTime)
			wantNoPut(t, f, 0, mark(1<<60+1), api.ErrTime)
			wantNoPut(t, f, 0, api.Item{Mark: true, Value: 1}, api.ErrField)
			wantNoPut(t, f, 2, event("c", 0), api.ErrArg)
		}
	}
	wantPut(t, f, 1, event("a", 9))
	full()
	wantPass(t, f, 0, 0)
	full()
	wantPass(t, f, 0, 1)
	wantPut(t, f, 0, event("c", 1<<16))
	full()
	wantTake(t, f, 1, 0, mark(-1))
	wantTake(t, f, 0, 0, mark(-1))
	for n := range 1 << 16 {
		wantPass(t, f, 0, 0)
		wantTake(t, f, 0, 0, event("c", int64(n+1)))
	}
	wantCounts(t, f, []int{0, 1}, []int{0, 0})
}

// P1503: the numbers of the chapter, by all numbers of operators.
func TestRouteOfTheExample(t *testing.T) {
	for operators := 1; operators <= 8; operators++ {
		f := newFlow(t, 1, operators, 1)
		if c, a := f.Route("c"), f.Route("a"); c != 2789590954%operators || a != 1623585091%operators {
			t.Errorf("of %d: %d, %d", operators, c, a)
		}
	}
}

// P1503: of any text, also of such as are no keys; what is queued and boxed says nothing to it.
func TestRoute(t *testing.T) {
	texts := append(wrongKeys(), rightKeys()...)
	for n := range 256 {
		texts = append(texts, string([]byte{byte(n)}), string([]byte{'k', byte(n)}), string([]byte{byte(n), 0, 'z'}), strings.Repeat("q", n))
	}
	for operators := 1; operators <= 8; operators++ {
		x := newBoth(t, 1, operators, 1)
		seen := make([]int, operators)
		for _, text := range texts {
			got := x.f.Route(text)
			if want := x.p.route(text); got != want {
				t.Fatalf("Route(%.40q) of %d: %d; want %d", text, operators, got, want)
			}
			seen[got]++
			if x.put(0, event(text, 0)) == api.OK {
				x.pass(0)
			}
		}
		for operator, n := range seen {
			if n < 40 {
				t.Errorf("%d of %d has %d texts: this tests too little", operator, operators, n)
			}
		}
	}
}

// P1503, P1504: no such source is ahead of an empty queue.
func TestTowardErrors(t *testing.T) {
	f := newFlow(t, 3, 2, 1)
	for range 2 {
		for _, source := range anyNumbers() {
			why := api.ErrArg
			if source >= 0 && source < 3 {
				why = api.ErrGone
			}
			if source == 1 && f.Queued(1) > 0 {
				continue
			}
			wantToward(t, f, source, 0, why)
			wantNoPass(t, f, source, why)
		}
		wantCounts(t, f, []int{0, f.Queued(1), 0}, []int{0, 0})
		wantPut(t, f, 1, event("a", 0))
	}
}

// P1503: Toward changes nothing, and tells a full box, too.
func TestTowardAFullBox(t *testing.T) {
	f := newFlow(t, 2, 2, 1)
	wantPut(t, f, 0, event("a", 1), event("a", 2), mark(3))
	wantPass(t, f, 0, 1)
	for range 3 {
		wantToward(t, f, 0, 1, api.OK)
		wantNoPass(t, f, 0, api.ErrWait)
		wantCounts(t, f, []int{2, 0}, []int{0, 1})
	}
	wantTake(t, f, 1, 0, event("a", 1))
	wantPass(t, f, 0, 1)
	for range 3 {
		wantToward(t, f, 0, 0, api.OK)
	}
}

// P1503, P1504: a mark goes to all operators, the least first, stands at full boxes, and nothing behind it goes past it.
func TestMarkGoesToAll(t *testing.T) {
	for operators := 1; operators <= 8; operators++ {
		for blocked := range operators {
			f := newFlow(t, 2, operators, 1)
			// A mark of another source fills all boxes; all but one are taken.
			wantPut(t, f, 1, mark(1))
			for operator := range operators {
				wantPass(t, f, 1, operator)
			}
			for operator := range operators {
				if operator != blocked {
					wantTake(t, f, operator, 1, mark(1))
				}
			}
			wantPut(t, f, 0, mark(2), event("a", 3))
			for operator := range blocked {
				wantPass(t, f, 0, operator)
			}
			for range 3 {
				wantToward(t, f, 0, blocked, api.OK)
				wantNoPass(t, f, 0, api.ErrWait)
			}
			wantTake(t, f, blocked, 1, mark(1))
			for operator := blocked; operator < operators; operator++ {
				if f.Queued(0) != 2 {
					t.Errorf("Queued: %d ahead of the last operator", f.Queued(0))
				}
				wantPass(t, f, 0, operator)
			}
			wantCounts(t, f, []int{1, 0}, slices.Repeat([]int{1}, operators))
			for operator := range operators {
				wantTake(t, f, operator, 0, mark(2))
			}
			wantPass(t, f, 0, f.Route("a"))
			wantTake(t, f, f.Route("a"), 0, event("a", 3))
			wantCounts(t, f, []int{0, 0}, make([]int, operators))
		}
	}
}

// P1504: marks behind one another begin each with operator 0; that two sources bring marks at a time does not mix up where they stand.
func TestMarksOfTwoSources(t *testing.T) {
	f := newFlow(t, 2, 3, 8)
	wantPut(t, f, 0, mark(1), mark(1), event("a", 2), mark(3))
	wantPut(t, f, 1, mark(4), mark(5))
	for _, step := range [][2]int{{0, 0}, {1, 0}, {0, 1}, {0, 2}, {0, 0}, {1, 1}, {0, 1}, {1, 2}, {1, 0}, {0, 2}, {1, 1}, {0, f.Route("a")}, {0, 0}, {1, 2}, {0, 1}, {0, 2}} {
		wantPass(t, f, step[0], step[1])
	}
	wantToward(t, f, 0, 0, api.ErrGone)
	wantToward(t, f, 1, 0, api.ErrGone)
}

// P1505: messages come in the order in which they were passed, with their sources, each once.
func TestTake(t *testing.T) {
	f := newFlow(t, 8, 2, 64)
	for source := range 8 {
		wantPut(t, f, source, numbered("c", 10*source, 8)...)
	}
	for n := range 8 {
		for source := range 8 {
			wantPass(t, f, (source*3+n)%8, 0)
		}
	}
	for n := range 8 {
		for source := range 8 {
			from := (source*3 + n) % 8
			wantNoTake(t, f, 1, api.ErrGone)
			wantTake(t, f, 0, from, event("c", int64(10*from+n)))
		}
	}
	wantNoTake(t, f, 0, api.ErrGone)
	for _, operator := range anyNumbers() {
		if operator < 0 || operator > 1 {
			wantNoTake(t, f, operator, api.ErrArg)
		}
	}
}

// P1506: a queue alone, a box alone, whichever, makes it not empty.
func TestEmpty(t *testing.T) {
	keys := map[int]string{}
	probe := newFlow(t, 1, 8, 1)
	for n := range 200 {
		key := string(rune('a' + n))
		keys[probe.Route(key)] = key
	}
	if len(keys) != 8 {
		t.Fatalf("keys of %d operators", len(keys))
	}
	f := newFlow(t, 8, 8, 1)
	queued, boxed := make([]int, 8), make([]int, 8)
	for source := range 8 {
		for operator := range 8 {
			wantCounts(t, f, queued, boxed)
			wantPut(t, f, source, event(keys[operator], 1))
			queued[source] = 1
			wantCounts(t, f, queued, boxed)
			wantPass(t, f, source, operator)
			queued[source], boxed[operator] = 0, 1
			wantCounts(t, f, queued, boxed)
			wantTake(t, f, operator, source, event(keys[operator], 1))
			boxed[operator] = 0
		}
	}
	wantCounts(t, f, queued, boxed)
}

// P1506: of sources and operators that are not, whatever the others have.
func TestCountsOfNone(t *testing.T) {
	f := newFlow(t, 2, 3, 4)
	wantPut(t, f, 0, mark(1), mark(2), mark(3))
	wantPut(t, f, 1, mark(1), mark(2), mark(3))
	for range 3 {
		wantNoPut(t, f, 2, mark(1), api.ErrArg)
		f.Pass(0)
		f.Pass(1)
	}
	for _, n := range anyNumbers() {
		if n < 0 || n > 1 {
			if got := f.Queued(n); got != 0 {
				t.Errorf("Queued(%d): %d", n, got)
			}
		}
		if n < 0 || n > 2 {
			if got := f.Boxed(n); got != 0 {
				t.Errorf("Boxed(%d): %d", n, got)
			}
		}
	}
	wantCounts(t, f, []int{2, 2}, []int{2, 2, 2})
}
