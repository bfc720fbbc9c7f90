package serve_test

import (
	"math"
	"testing"

	"spate/api"
)

// The chapter's example 1.
func TestExampleSteps(t *testing.T) {
	s := newServer(t, small())
	wantStates(t, s, 1, 1, 1)
	wantRound(t, s, 3)
	wantStates(t, s, 3, 3, 3)
	e := feed(0, "a", 5, 7)
	do(t, s, e)
	wantStates(t, s, 1, 3, 3)
	do(t, s, pick(0))
	wantStates(t, s, 1, 1, 3)
	do(t, s, pick(1), pick(1))
	wantStates(t, s, 1, 1, 3)
	wantMap(t, s)
	wantLines(t, s, 0)
	do(t, s, pick(1))
	wantLines(t, s, 0, lineEvent(0, 0, e, api.FTaken))
	wantMap(t, s, row("a", 0, 7))
	wantUnits(t, s, 1, 2)
}

// The chapter's example 2.
func TestExampleErrors(t *testing.T) {
	s := newServer(t, small())
	wantErrno(t, s, feed(0, "a", api.MaxTime+1, 0), api.ErrTime)
	wantErrno(t, s, api.Event{Kind: api.EPick, A: 1}, api.ErrField)
	wantErrno(t, s, api.Event{Kind: 10}, api.ErrKind)
	wantErrno(t, s, open(0), api.ErrArg)
}

// The chapter's example 3.
func TestExampleExpiry(t *testing.T) {
	s := newServer(t, small())
	e := feed(0, "a", 5, 7)
	do(t, s, e, mark(0, 10))
	settle(t, s)
	wantLines(t, s, 0, lineEvent(0, 0, e, api.FTaken), lineMark(0, 0, 10), lineKill(0, cell("a", 0)))
	wantMap(t, s)
	wantUnits(t, s, 0, 0)
}

// Row S: an item a step; where the box is full, the source waits till its operator takes something out.
func TestSource(t *testing.T) {
	// Of two operators that of c is 0, that of a 1; of four shards that of c is 2, that of a 0.
	s := resting(t, with(func(c *api.Config) { c.Operators, c.Shards, c.Box = 2, 4, 1 }))
	do(t, s, feed(0, "c", 1, 1), feed(0, "c", 1, 2), feed(0, "a", 1, 3))
	step(t, s, 0, 1)
	wantStates(t, s, 1, 1, 3, 3)
	step(t, s, 0, 1)
	wantStates(t, s, 3, 1, 3, 3)
	// More items wake it, but there is no room still.
	do(t, s, feed(0, "c", 1, 4))
	wantStates(t, s, 3, 1, 3, 3)
	step(t, s, 1, 1)
	wantStates(t, s, 1, 1, 3, 3)
	step(t, s, 0, 2)
	wantStates(t, s, 1, 1, 1, 3)
	step(t, s, 0, 1)
	wantStates(t, s, 3, 1, 1, 3)
	// It waits at the box of operator 0, and operator 1 takes out of another one.
	step(t, s, 2, 1)
	wantStates(t, s, 3, 1, 1, 3)
	step(t, s, 1, 2)
	wantStates(t, s, 3, 1, 1, 3)
	step(t, s, 1, 1)
	wantStates(t, s, 1, 1, 1, 3)
	step(t, s, 0, 2)
	wantStates(t, s, 3, 1, 1, 3)
	do(t, s, feed(0, "c", 1, 5))
	wantStates(t, s, 1, 1, 1, 3)
}

// Row S: a mark goes into each box, one a step, and each taker is woken by its own.
func TestSourceOfMark(t *testing.T) {
	s := resting(t, with(func(c *api.Config) { c.Operators = 3 }))
	do(t, s, mark(0, 4))
	for task := range 3 {
		step(t, s, 0, 1)
		want := []int{1, 3, 3, 3, 3}
		for i := range task + 1 {
			want[1+i] = 1
		}
		wantStates(t, s, want...)
	}
	step(t, s, 0, 1)
	wantStates(t, s, 3, 1, 1, 1, 3)
	step(t, s, 2, 1)
	step(t, s, 1, 1)
	wantLines(t, s, 0, lineMark(1, 0, 4), lineMark(0, 0, 4))
	wantStates(t, s, 3, 1, 1, 1, 3)
	step(t, s, 2, 1)
	wantStates(t, s, 3, 1, 3, 1, 3)
}

// Rows S, O: all that wait for room in a box are woken, also those of a mark.
func TestGivers(t *testing.T) {
	s := resting(t, with(func(c *api.Config) { c.Sources, c.Box = 3, 1 }))
	e := feed(1, "a", 1, 1)
	do(t, s, e, mark(0, 4), feed(2, "a", 1, 1))
	step(t, s, 1, 1)
	step(t, s, 0, 1)
	step(t, s, 2, 1)
	wantStates(t, s, 3, 1, 3, 1, 3)
	step(t, s, 3, 1)
	wantStates(t, s, 1, 1, 1, 1, 3)
	step(t, s, 3, 2)
	wantLines(t, s, 0, lineEvent(0, 1, e, api.FTaken))
}

// Rows O, R, W: a step each cell, read all and then written all, told with the last one.
func TestEventOfCells(t *testing.T) {
	s := resting(t, with(func(c *api.Config) {
		c.Views = []api.View{{Size: 10, Slide: 5}, {Size: 3, Slide: 7}, {Size: 4, Slide: 4}}
	}))
	e := feed(0, "a", 5, 7)
	do(t, s, e)
	step(t, s, 0, 2)
	step(t, s, 1, 4) // taken and asked; three cells are read
	wantMap(t, s)
	step(t, s, 1, 1)
	wantMap(t, s, row("a", 0, 7))
	step(t, s, 1, 1)
	wantMap(t, s, row("a", 0, 7), row("a", 5, 7))
	wantLines(t, s, 0)
	step(t, s, 1, 1)
	last := row("a", 4, 7)
	last.View = 2
	wantMap(t, s, row("a", 0, 7), row("a", 5, 7), last)
	wantLines(t, s, 0, lineEvent(0, 0, e, api.FTaken))
	wantStates(t, s, 3, 1, 3)
	step(t, s, 1, 1)
	wantStates(t, s, 3, 3, 3)
}

// Row O: in a gap an event is taken and nothing written; a late one is told so; a step each.
func TestEventOfNone(t *testing.T) {
	s := resting(t, with(func(c *api.Config) { c.Views = []api.View{{Size: 3, Slide: 10}} }))
	gap, in := feed(0, "a", 5, 7), feed(0, "a", 2, 7)
	do(t, s, mark(0, 3), gap, in)
	step(t, s, 0, 2)
	step(t, s, 1, 1)
	wantLines(t, s, 0, lineMark(0, 0, 3))
	step(t, s, 1, 1)
	wantLines(t, s, 1, lineEvent(0, 0, gap, api.FTaken))
	step(t, s, 0, 1)
	step(t, s, 1, 1)
	wantLines(t, s, 2, lineEvent(0, 0, in, api.FLate))
	wantMap(t, s)
	wantUnits(t, s, 0, 0)
}

// Row O: late is an event of which all windows are closed; of the others it goes into the open ones.
func TestEventOfSome(t *testing.T) {
	s := resting(t, with(func(c *api.Config) { c.Views = []api.View{{Size: 10, Slide: 5, Late: 2}} }))
	do(t, s, mark(0, 17), feed(0, "a", 9, 1), feed(0, "a", 10, 2), mark(0, 21), feed(0, "a", 14, 3), mark(0, 22), feed(0, "a", 14, 4))
	settle(t, s)
	wantLines(t, s, 0,
		lineMark(0, 0, 17),
		lineEvent(0, 0, feed(0, "a", 9, 1), api.FLate),
		lineEvent(0, 0, feed(0, "a", 10, 2), api.FTaken),
		lineMark(0, 0, 21),
		lineEvent(0, 0, feed(0, "a", 14, 3), api.FTaken),
		lineMark(0, 0, 22),
		lineKill(0, cell("a", 10)),
		lineEvent(0, 0, feed(0, "a", 14, 4), api.FLate),
	)
}

// Row R: an overflow is told when the cell is read of which it is one, and nothing is written.
func TestOverflow(t *testing.T) {
	s := resting(t, with(func(c *api.Config) { c.Views = []api.View{{Size: 10, Slide: 5}} }))
	do(t, s, feed(0, "a", 2, math.MaxInt64))
	settle(t, s)
	e := feed(0, "a", 7, 1)
	do(t, s, e)
	step(t, s, 0, 1)
	step(t, s, 1, 2)
	wantLines(t, s, 1, lineEvent(0, 0, e, api.FOverflow))
	do(t, s, feed(0, "a", -2, 1))
	step(t, s, 0, 1)
	step(t, s, 1, 2)
	wantLines(t, s, 2)
	step(t, s, 1, 1)
	wantLines(t, s, 2, lineEvent(0, 0, feed(0, "a", -2, 1), api.FOverflow))
	wantMap(t, s, row("a", -5, math.MaxInt64), row("a", 0, math.MaxInt64))
	wantUnits(t, s, 1, 4)
	// Its locks are free.
	do(t, s, feed(0, "a", 7, -1))
	settle(t, s)
	wantMap(t, s, row("a", -5, math.MaxInt64), row("a", 0, math.MaxInt64, -1), row("a", 5, -1))
}

// P1807, row R: full is an event whose cells do not fit all together, at the epoch that is now; nothing is written.
func TestFull(t *testing.T) {
	for slots, want := range map[int]int{3: api.FFull, 4: api.FTaken, 5: api.FTaken} {
		s := resting(t, with(func(c *api.Config) { c.Views, c.Slots = []api.View{{Size: 10, Slide: 5}}, slots }))
		e := feed(0, "a", 7, 1)
		do(t, s, e)
		step(t, s, 0, 1)
		step(t, s, 1, 2)
		wantLines(t, s, 0)
		step(t, s, 1, 1)
		if want == api.FTaken {
			wantLines(t, s, 0)
			step(t, s, 1, 2)
			wantUnits(t, s, 1, 4)
		} else {
			wantUnits(t, s, 0, 0)
			wantMap(t, s)
		}
		wantLines(t, s, 0, lineEvent(0, 0, e, want))
	}
}

// P1807: what fits hangs on the epoch: a cell of this epoch takes no room; of one before it takes a unit more.
func TestFullAtEpochs(t *testing.T) {
	s := resting(t, with(func(c *api.Config) { c.Slots = 4 }), 1)
	e := feed(0, "a", 7, 1)
	do(t, s, e, feed(0, "b", 7, 1), e)
	settle(t, s)
	wantUnits(t, s, 1, 4)
	ask(t, s, 1, pin(0))
	settle(t, s)
	from := len(s.Lines(0))
	do(t, s, e)
	settle(t, s)
	wantLines(t, s, from, lineEvent(0, 0, e, api.FFull))
	// A Kill has room always (P1807): of both cells the versions stay, for who holds the epoch.
	do(t, s, mark(0, 10))
	settle(t, s)
	wantLines(t, s, from+1, lineMark(0, 0, 10), lineKill(0, cell("a", 0)), lineKill(0, cell("b", 0)))
	wantUnits(t, s, 2, 4)
	wantMap(t, s)
	ask(t, s, 1, release(0, 1))
	settle(t, s)
	wantUnits(t, s, 0, 0)
}

// Rows K, L: the cells that are to go, one by one in their order, each with locks of its own; the reclaimer is woken by each.
func TestKills(t *testing.T) {
	s := resting(t, with(func(c *api.Config) { c.Slots = 20 }))
	do(t, s, feed(0, "b", 5, 1), feed(0, "a", 15, 1), feed(0, "a", 5, 1), feed(0, "a", 25, 1))
	settle(t, s)
	do(t, s, mark(0, 20))
	step(t, s, 0, 2)
	step(t, s, 1, 1)
	wantLines(t, s, 4, lineMark(0, 0, 20))
	step(t, s, 1, 1)
	wantLines(t, s, 5)
	wantStates(t, s, 3, 1, 3)
	step(t, s, 1, 1)
	wantLines(t, s, 5, lineKill(0, cell("a", 0)))
	wantMap(t, s, row("a", 10, 1), row("a", 20, 1), row("b", 0, 1))
	wantStates(t, s, 3, 1, 1)
	step(t, s, 1, 2)
	wantLines(t, s, 6, lineKill(0, cell("a", 10)))
	step(t, s, 1, 2)
	wantLines(t, s, 7, lineKill(0, cell("b", 0)))
	wantMap(t, s, row("a", 20, 1))
	step(t, s, 1, 1)
	wantStates(t, s, 3, 3, 1)
}

// Row O: a mark that closes nothing; one of one source among several; one that is told twice.
func TestMarks(t *testing.T) {
	s := resting(t, with(func(c *api.Config) { c.Sources = 2 }))
	do(t, s, feed(0, "a", 5, 1), mark(0, 10))
	settle(t, s)
	do(t, s, mark(1, 9))
	settle(t, s)
	do(t, s, mark(1, 8), mark(0, 3))
	settle(t, s)
	wantMap(t, s, row("a", 0, 1))
	do(t, s, mark(1, 10))
	settle(t, s)
	do(t, s, mark(1, 10))
	settle(t, s)
	wantMap(t, s)
	marks := 0
	for _, l := range s.Lines(0) {
		if l.Kind == api.HMark {
			marks++
		}
	}
	if marks != 6 {
		t.Errorf("%d marks were told", marks)
	}
}

// P1802: what an operator asks for: the gate, shared; the shard of its key, not shared.
func TestLocksOfOperators(t *testing.T) {
	// Of two operators that of c is 0, that of a 1; of two shards that of a is 0, of b and d 1, of c 0.
	s := resting(t, with(func(c *api.Config) { c.Operators, c.Shards = 2, 2 }), 1)
	do(t, s, feed(0, "a", 5, 1), feed(0, "c", 5, 1))
	step(t, s, 0, 3)
	step(t, s, 1, 1)
	wantStates(t, s, 3, 1, 1, 3, 3)
	step(t, s, 2, 1)
	wantStates(t, s, 3, 1, 2, 3, 3)
	step(t, s, 1, 2)
	wantStates(t, s, 3, 1, 1, 3, 3)
	wantMap(t, s, row("c", 0, 1))
	// A get of the same shard waits for it; one of the other shard does not.
	ask(t, s, 1, get(0, 0, cell("b", 0)), get(1, 0, cell("c", 0)))
	step(t, s, 4, 2)
	wantStates(t, s, 3, 1, 1, 3, 1)
	step(t, s, 4, 4)
	wantStates(t, s, 3, 1, 1, 3, 2)
	step(t, s, 2, 2)
	wantStates(t, s, 3, 1, 1, 3, 1)
}

// P1802: no epoch is sealed, and nothing counted, between an event's first read and its last write, or while a cell is killed.
func TestGate(t *testing.T) {
	for _, q := range []api.Request{pin(0), scan(0, 0, 9), stats(0)} {
		s := resting(t, with(func(c *api.Config) { c.Views = []api.View{{Size: 10, Slide: 5}} }), 1)
		do(t, s, feed(0, "a", 5, 1))
		step(t, s, 0, 1)
		step(t, s, 1, 1)
		ask(t, s, 1, q)
		step(t, s, 3, 2)
		for range 4 {
			wantStates(t, s, 1, 1, 3, 2)
			wantBook(t, s, 1, 0, 0)
			step(t, s, 1, 1)
		}
		wantStates(t, s, 1, 1, 3, 1)
		step(t, s, 0, 1)
		// Now the operator waits for the session.
		do(t, s, mark(0, 99))
		step(t, s, 0, 1)
		step(t, s, 1, 2)
		wantStates(t, s, 1, 2, 3, 1)
		step(t, s, 3, 1)
		wantStates(t, s, 1, 1, 3, 1)
	}
}
