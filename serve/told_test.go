package serve_test

import (
	"math"
	"slices"
	"testing"

	"spate/api"
	"spate/serve"
)

// busyServer has lines of all kinds, and something of everything else that is told.
func busyServer(t *testing.T) *serve.Server {
	t.Helper()
	s := fed(t, with(func(c *api.Config) { c.Shards, c.Slots, c.Pins = 2, 30, 4 }), "abc", 1, 2)
	ask(t, s, 1, pin(1), multi(2, 1, cell("a", 0), cell("c", 0)), scan(3, 0, 2), stats(4))
	do(t, s, send(2, make([]byte, 4)))
	settle(t, s)
	do(t, s, feed(0, "b", 15, 3), feed(0, "a", 5, 1), mark(0, 10), feed(0, "a", 5, 1))
	settle(t, s)
	return s
}

// P1803: the lines from a number on.
func TestLines(t *testing.T) {
	s := busyServer(t)
	all := s.Lines(0)
	kinds := map[int]int{}
	for _, l := range all {
		kinds[l.Kind]++
	}
	for kind, want := range map[int]int{api.HEvent: 6, api.HMark: 1, api.HKill: 3, api.HOpen: 2, api.HAsk: 4, api.HPoint: 4, api.HAnswer: 4, api.HBad: 1, api.HLeave: 1} {
		if kinds[kind] != want {
			t.Errorf("%d lines of kind %d; want %d", kinds[kind], kind, want)
		}
	}
	for from := range len(all) + 3 {
		wantLines(t, s, from, all[min(from, len(all)):]...)
	}
	for _, from := range []int{-1, -9, math.MinInt} {
		wantLines(t, s, from, all...)
	}
	wantLines(t, s, math.MaxInt)
}

// P2: what is told is new memory, its spare room too: who writes into it changes nothing.
func TestToldIsNew(t *testing.T) {
	s := busyServer(t)
	before := print(s)
	for range 2 {
		for _, l := range spare(s.Lines(0)) {
			clear(spare(l.Request.Cells))
			clear(spare(l.Response.Rows))
		}
		clear(spare(s.Lines(0)))
		clear(spare(s.Map()))
		clear(spare(s.Units()))
		clear(spare(s.States()))
		b, _ := s.Heard(1)
		clear(spare(b))
		wantPrint(t, s, before)
	}
	// What is told of later steps hangs on nothing of it either.
	ask(t, s, 1, get(1, 1, cell("a", 0)))
	step(t, s, 3, 3)
	for _, l := range s.Lines(0) {
		clear(spare(l.Request.Cells))
	}
	settle(t, s)
	if l := responses(t, s, 1); l[len(l)-1].Rows[0] != row("a", 0, 1) {
		t.Errorf("%+v", l)
	}
}

func spare[T any](l []T) []T { return l[:cap(l)] }

// P2: no two lists of one answer share any.
func TestListsOfLines(t *testing.T) {
	s := busyServer(t)
	all := s.Lines(0)
	for i := range all {
		lines := s.Lines(0)
		clear(spare(lines[i].Request.Cells))
		clear(spare(lines[i].Response.Rows))
		lines[i] = all[i]
		if !slices.EqualFunc(lines, all, sameLine) {
			t.Fatalf("line %d shares with another one", i)
		}
	}
}

// P1803: the map is in order, over all shards and views, with what has been written and not killed.
func TestMap(t *testing.T) {
	s := resting(t, with(func(c *api.Config) {
		c.Views, c.Shards, c.Slots = []api.View{{Size: 10, Slide: 10}, {Size: 7, Slide: 7, Late: 100}}, 5, 99
	}))
	for i, key := range []string{"b", "\x00", "a", "aa", "a\x00", "\xff", "B"} {
		do(t, s, feed(0, key, -5, int64(i)), feed(0, key, 25, -int64(i)))
	}
	settle(t, s)
	var want []api.Row
	for view, starts := range [][]int64{{-10, 20}, {-7, 21}} {
		for _, x := range []struct {
			key string
			v   int64
		}{{"\x00", 1}, {"B", 6}, {"a", 2}, {"a\x00", 4}, {"aa", 3}, {"b", 0}, {"\xff", 5}} {
			for i, start := range starts {
				r := row(x.key, start, []int64{x.v, -x.v}[i])
				r.View = view
				want = append(want, r)
			}
		}
	}
	wantMap(t, s, want...)
	do(t, s, mark(0, 20))
	settle(t, s)
	wantMap(t, s, slices.DeleteFunc(want, func(r api.Row) bool { return r.View == 0 && r.Start == -10 })...)
}

// P1803: Units of each shard, Most of all.
func TestUnits(t *testing.T) {
	// Of four shards those of a and e are 0, of b 1, of c 2, of d 3.
	s := fed(t, with(func(c *api.Config) { c.Shards, c.Slots = 4, 30 }), "abec", 1)
	wantUnits(t, s, 1, 4, 2, 2, 0)
	ask(t, s, 1, pin(0))
	settle(t, s)
	do(t, s, feed(0, "c", 5, 1))
	settle(t, s)
	wantUnits(t, s, 2, 4, 2, 3, 0)
	ask(t, s, 1, pin(0))
	settle(t, s)
	do(t, s, mark(0, 10))
	settle(t, s)
	wantUnits(t, s, 3, 4, 2, 3, 0)
	wantBook(t, s, 3, 2, 2)
}

// P1804: each of the things that are to do.
func TestIdle(t *testing.T) {
	s := resting(t, with(func(c *api.Config) { c.In, c.Out, c.Box = 4, 3, 1 }), 1)
	wantIdle(t, s, true)
	do(t, s, send(1, nil))
	wantIdle(t, s, true)
	do(t, s, send(1, []byte{0, 0})) // on its way
	wantIdle(t, s, false)
	do(t, s, bring(1, 1))
	step(t, s, 3, 1)
	wantIdle(t, s, false)
	do(t, s, bring(1, 1))
	wantIdle(t, s, false) // ready, and in the in buffer
	step(t, s, 3, 1)
	wantIdle(t, s, true)
	do(t, s, send(1, []byte{0, 2, 7, 1}), bring(1, 4))
	step(t, s, 3, 4)
	wantIdle(t, s, false) // in the out buffer
	do(t, s, fetch(1, 3))
	step(t, s, 3, 1)
	do(t, s, fetch(1, 3))
	step(t, s, 3, 1)
	do(t, s, fetch(1, 3))
	step(t, s, 3, 1)
	wantIdle(t, s, false)
	step(t, s, 3, 1)
	wantIdle(t, s, false)
	do(t, s, fetch(1, 3))
	step(t, s, 3, 1)
	wantIdle(t, s, true)
	do(t, s, mark(0, 1))
	wantIdle(t, s, false)
	settle(t, s)
	wantIdle(t, s, true)
}

// P1804: who waits for locks is something to do, though nobody is ready but who has them, and so is what lies in a box whose operator waits for them.
func TestIdleOfLocked(t *testing.T) {
	s := resting(t, small(), 1)
	do(t, s, feed(0, "a", 5, 1))
	ask(t, s, 1, get(0, 0, cell("a", 0)))
	step(t, s, 3, 2)
	step(t, s, 0, 2)
	step(t, s, 1, 1)
	wantStates(t, s, 3, 2, 3, 1)
	wantIdle(t, s, false)
	settle(t, s)
}

// P1804: bytes that a closed connection has to be fetched still.
func TestIdleOfClosed(t *testing.T) {
	s := resting(t, small(), 7)
	do(t, s, stop())
	step(t, s, 3, 4)
	wantStates(t, s, 3, 3, 3, 4)
	wantIdle(t, s, false)
	do(t, s, fetch(7, 99))
	wantIdle(t, s, true)
}

// P1804, P1805: each of the connections counts, also the first and the last.
func TestEachConn(t *testing.T) {
	for _, c := range []int{1, 2, 63, 64} {
		s := resting(t, small(), c)
		do(t, s, send(c, framed(t, stats(1))))
		wantIdle(t, s, false)
		wantRound(t, s, 0)
		for range 4 {
			wantRound(t, s, 1)
		}
		wantResponses(t, s, c, counts(1, api.Stats{Now: 1}))
		settle(t, s)
		do(t, s, stop())
		wantStates(t, s, 3, 3, 3, 1)
	}
}

// P1805: a round: the tasks that are ready at its beginning, in order, and then all bytes each way, with what these wake.
func TestRound(t *testing.T) {
	s := newServer(t, small())
	do(t, s, open(3), open(1))
	b := framed(t, pin(0), pin(0))
	do(t, s, send(1, b), send(3, b))
	wantRound(t, s, 5)
	wantStates(t, s, 3, 3, 3, 1, 1)
	wantLines(t, s, 2)
	wantRound(t, s, 2)
	wantLines(t, s, 2, lineAsk(3, 0, pin(0)), lineAsk(1, 0, pin(0)))
	wantRound(t, s, 2)
	wantStates(t, s, 3, 3, 3, 1, 2)
	// Connection 1's task is ready in this round only behind its beginning.
	wantRound(t, s, 1)
	wantStates(t, s, 3, 3, 3, 1, 1)
	wantRound(t, s, 2)
	wantResponses(t, s, 3, sealed(0, 1))
	wantResponses(t, s, 1)
	wantRound(t, s, 2)
	wantResponses(t, s, 1, sealed(0, 2))
	for range 9 {
		s.Round()
	}
	wantRound(t, s, 0)
	wantResponses(t, s, 3, sealed(0, 1), sealed(0, 3))
	wantResponses(t, s, 1, sealed(0, 2), sealed(0, 4))
}

// P1805: so many bytes as there is room for are brought; a round without a step brings, too.
func TestRoundBrings(t *testing.T) {
	s := resting(t, with(func(c *api.Config) { c.In, c.Out = 3, 5 }), 1)
	do(t, s, send(1, framed(t, stats(1)))) // 6 bytes
	wantRound(t, s, 0)
	wantStates(t, s, 3, 3, 3, 1)
	wantRound(t, s, 1)
	wantStates(t, s, 3, 3, 3, 1)
	wantRound(t, s, 1)
	wantLines(t, s, 1, lineAsk(1, 0, stats(1)))
	frame := answered(t, counts(1, api.Stats{Now: 1})) // 12 bytes
	s.Round()
	s.Round()
	for _, heard := range []int{5, 10, 12} {
		wantRound(t, s, 1)
		b, _ := s.Heard(1)
		wantBytes(t, b, frame[:heard])
	}
}

// P1803, P8: Heard of connections that are none.
func TestHeardOfNone(t *testing.T) {
	s := busyServer(t)
	for _, c := range []int{0, -1, 3, 64, 65, math.MinInt, math.MaxInt} {
		b, end := s.Heard(c)
		if len(b) != 0 || end {
			t.Errorf("Heard(%d): %v, %v", c, b, end)
		}
	}
	b, end := s.Heard(2)
	wantBytes(t, b, answered(t, bad(0, api.ErrFrame)))
	if !end {
		t.Error("connection 2 is not at its end")
	}
}
