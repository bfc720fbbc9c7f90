package world_test

import (
	"math"
	"testing"

	"spate/api"
	"spate/world"
)

// P2001, P2002: the chapter's example 1.
func TestExampleOfSessions(t *testing.T) {
	wantTold(t, rest(t, script()), world.Told{Idle: true, Steps: 3, Rounds: 1})
	s := script(open(1), ask(t, 1, pin(0)))
	w := run(t, s)
	wantHeard(t, w, heard())
	wantNumbers(t, w, false, 0, 0)
	w = rest(t, s)
	wantErrs(t, w, api.OK, api.OK)
	wantHeard(t, w, heard(sealed(0, 1)))
	wantMap(t, w)
}

// P2002: the chapter's example 2.
func TestExampleOfItems(t *testing.T) {
	e := feed(0, "k", 3, 5)
	w := rest(t, script(e))
	wantErrs(t, w, api.OK)
	wantMap(t, w, row("k", 0, 5))
	wantLines(t, w, lineEvent(e, api.FTaken))
	wantHeard(t, w)
}

// P2002, P2007: the chapter's example 3.
func TestExampleOfBadBytes(t *testing.T) {
	w := rest(t, script(open(1), send(1, 0, 0, 0, 1, 9)))
	wantHeard(t, w, world.Heard{Responses: []api.Response{bad(0, api.ErrKind)}, End: true})
}

// P2001: without events nothing is told; the tasks are ready, as chapter 18 has it, so that it is not idle.
func TestRunOfNothing(t *testing.T) {
	wantTold(t, run(t, script()), world.Told{})
	wantTold(t, run(t, world.Script{Config: small(), Events: []api.Event{}}), world.Told{})
}

// P2001: Errs is what Do answered to each event, be it right or wrong.
func TestErrs(t *testing.T) {
	long := string(make([]byte, api.MaxKey+1))
	w := run(t, script(
		feed(0, "k", 3, 5), feed(1, "k", 3, 5), feed(0, "", 3, 5), feed(0, long, 3, 5), feed(0, "k", api.MaxTime+1, 5),
		mark(0, 1), mark(-1, 1), mark(0, -api.MaxTime-1),
		send(1, 1), open(1), open(1), open(0), open(api.MaxConns+1), send(1, make([]byte, api.MaxWay+1)...), bring(1, -1), fetch(2, 1), cut(1), cut(1),
		api.Event{Kind: 10}, api.Event{}, api.Event{Kind: api.EPick, A: 1}, pick(-7),
		stop(), stop(), open(2),
	))
	wantErrs(t, w,
		api.OK, api.ErrArg, api.ErrKey, api.ErrKey, api.ErrTime,
		api.OK, api.ErrArg, api.ErrTime,
		api.ErrGone, api.OK, api.ErrTwice, api.ErrArg, api.ErrArg, api.ErrMany, api.OK, api.ErrGone, api.OK, api.ErrGone,
		api.ErrKind, api.ErrKind, api.ErrField, api.OK,
		api.OK, api.ErrTwice, api.ErrDown,
	)
}

// P2001: Lines are all lines, Map is what is there then.
func TestLinesAndMap(t *testing.T) {
	a, b, late := feed(0, "a", 3, 5), feed(0, "b", 13, -2), feed(0, "a", 4, 1)
	m := mark(0, 10)
	s := script(join([]api.Event{open(2), a}, picks(40), []api.Event{b, m, late}, picks(60))...)
	w := run(t, s)
	wantLines(t, w, lineOpen(2), lineEvent(a, api.FTaken), lineEvent(b, api.FTaken), lineMark(m), lineKill(cell("a", 0)), lineEvent(late, api.FLate))
	wantMap(t, w, row("b", 10, -2))
	wantNumbers(t, w, true, 100, 0)
	s.Events = s.Events[:42]
	w = run(t, s)
	wantLines(t, w, lineOpen(2), lineEvent(a, api.FTaken))
	wantMap(t, w, row("a", 0, 5))
}

// P2001: a pick counts as a step, also if no task is ready; one that is refused does not, nor any other event.
func TestSteps(t *testing.T) {
	wrong := []api.Event{{Kind: api.EPick, A: 1}, {Kind: api.EPick, Value: 1}, {Kind: api.EPick, Data: []byte{1}}}
	for n := range 9 {
		w := run(t, script(join(picks(n), wrong, []api.Event{feed(0, "k", 1, 1), open(1), bring(1, 1), fetch(1, 1)})...))
		wantNumbers(t, w, false, n, 0)
	}
	wantNumbers(t, run(t, script(picks(9)...)), true, 9, 0)
	wantNumbers(t, run(t, script(pick(math.MinInt), pick(math.MaxInt))), false, 2, 0)
}

// P2001: Heard goes up to the greatest number that was opened; what was not opened between heard nothing.
func TestHeardOfWhom(t *testing.T) {
	for _, x := range []struct {
		events []api.Event
		want   int
	}{
		{nil, 0},
		{[]api.Event{open(0)}, 0},
		{[]api.Event{open(65), open(-1)}, 0},
		{[]api.Event{{Kind: api.EOpen, A: 9, N: 1}}, 0},
		{[]api.Event{send(5, 1), bring(5, 1), cut(5), pick(5), feed(0, "k", 5, 5)}, 0},
		{[]api.Event{open(1)}, 1},
		{[]api.Event{open(3)}, 3},
		{[]api.Event{open(3), open(1)}, 3},
		{[]api.Event{open(2), open(2), open(65), open(4)}, 4},
		{[]api.Event{open(api.MaxConns)}, api.MaxConns},
		{[]api.Event{open(2), stop(), open(5)}, 2},
	} {
		w := run(t, script(x.events...))
		wantHeard(t, w, make([]world.Heard, x.want)...)
	}
	c := with(func(c *api.Config) { c.Admit = 2 })
	w := rest(t, world.Script{Config: c, Events: []api.Event{open(3), open(1), ask(t, 3, pin(4)), ask(t, 1, stats(5))}})
	wantHeard(t, w, heard(counts(5, api.Stats{Now: 2})), heard(), heard(sealed(4, 1)))
}

// P2001: what a client got is told response by response, as far as they are whole; Rest are the bytes behind these.
func TestHeardInPieces(t *testing.T) {
	first, second := sealed(7, 1), counts(8, api.Stats{Now: 2})
	all := answered(t, first, second)
	n := len(answered(t, first))
	talk := join([]api.Event{open(1), ask(t, 1, pin(7), stats(8)), bring(1, 100)}, picks(60))
	for got := range len(all) + 3 {
		w := run(t, script(join(talk, []api.Event{fetch(1, got)})...))
		want := world.Heard{Rest: min(got, len(all))}
		if got >= n {
			want.Responses = append(want.Responses, first)
			want.Rest -= n
		}
		if got >= len(all) {
			want.Responses = append(want.Responses, second)
			want.Rest = 0
		}
		wantHeard(t, w, want)
		// Whoever cuts keeps what it got, and heard the end.
		w = run(t, script(join(talk, []api.Event{fetch(1, got), cut(1), fetch(1, 99)})...))
		want.End = true
		wantHeard(t, w, want)
	}
	// Byte by byte it is the same.
	for range all {
		talk = append(talk, fetch(1, 1))
	}
	wantHeard(t, run(t, script(talk...)), heard(first, second))
}

// P2001: End tells of a server that closed the connection, when all was fetched.
func TestHeardEnd(t *testing.T) {
	last := bad(0, api.ErrDown)
	n := len(answered(t, last))
	down := join([]api.Event{open(1), stop()}, picks(60))
	wantHeard(t, run(t, script(down...)), heard())
	wantHeard(t, run(t, script(append(down, fetch(1, n-1))...)), world.Heard{Rest: n - 1})
	wantHeard(t, run(t, script(append(down, fetch(1, n))...)), world.Heard{Responses: []api.Response{last}, End: true})
	wantHeard(t, rest(t, script(open(1), cut(1))), world.Heard{End: true})
}

// P2001: a long answer, in frames as great as they come, is told whole.
func TestHeardMuch(t *testing.T) {
	c := with(func(c *api.Config) {
		c.Views, c.Slots, c.Frame, c.In, c.Out = []api.View{{Size: 64, Slide: 1}}, 1<<10, api.MaxBody, 1<<17, 1<<17
	})
	events := []api.Event{open(1)}
	var want []api.Row
	for i := range 4 {
		key := string(make([]byte, api.MaxKey-1)) + string(rune('a'+i))
		events = append(events, feed(0, key, api.MaxTime, math.MinInt64))
		for start := int64(api.MaxTime - 63); start <= api.MaxTime; start++ {
			want = append(want, row(key, start, math.MinInt64))
		}
	}
	s := world.Script{Config: c, Events: events}
	wantMap(t, rest(t, s), want...)
	s.Events = join(s.Events, picks(3000), []api.Event{ask(t, 1, scan(9, 0, api.MaxRows), scan(10, 0, 255))})
	wantHeard(t, rest(t, s), heard(rows(9, want...), rows(10, want[:255]...)))
}

// P2001, P2002, P4: a configuration that is not right is told as New tells it, with zeros beside it.
func TestWrongConfig(t *testing.T) {
	for _, x := range wrongConfigs() {
		for _, events := range [][]api.Event{nil, {open(1), feed(0, "k", 1, 1), pick(0)}} {
			s := world.Script{Config: x.c, Events: events}
			w, errno := world.Run(s)
			if errno != x.want {
				t.Errorf("Run of %+v: %v; want %v", x.c, errno, x.want)
			}
			wantTold(t, w, world.Told{})
			w, errno = world.Settle(s, 9)
			if errno != x.want {
				t.Errorf("Settle of %+v: %v; want %v", x.c, errno, x.want)
			}
			wantTold(t, w, world.Told{})
		}
	}
}

type wrongConfig struct {
	c    api.Config
	want api.Errno
}

// wrongConfigs have one thing each, or a view besides, that may not be.
func wrongConfigs() []wrongConfig {
	list := []wrongConfig{{api.Config{}, api.ErrConfig}}
	add := func(want api.Errno, change func(*api.Config)) { list = append(list, wrongConfig{with(change), want}) }
	for _, v := range []api.View{{}, {Size: 1}, {Slide: 1}, {Size: 65, Slide: 1}, {Size: 1 << 41, Slide: 1 << 40}, {Size: 1, Slide: 1, Late: -1}} {
		add(api.ErrView, func(c *api.Config) { c.Views = append(c.Views, v) })
		add(api.ErrView, func(c *api.Config) { c.Views, c.Sources = append(c.Views, v), 0 })
	}
	for _, n := range []int{-1, 0, 9, math.MaxInt} {
		add(api.ErrConfig, func(c *api.Config) { c.Sources = n })
		add(api.ErrConfig, func(c *api.Config) { c.Operators = n })
	}
	for _, n := range []int{-1, 0, 65, math.MinInt} {
		add(api.ErrConfig, func(c *api.Config) { c.Shards = n })
		add(api.ErrConfig, func(c *api.Config) { c.Box = n })
		add(api.ErrConfig, func(c *api.Config) { c.Admit = n })
		add(api.ErrConfig, func(c *api.Config) { c.Pins = n })
		add(api.ErrConfig, func(c *api.Config) { c.Chunk = n })
	}
	for _, n := range []int{-1, 0, 1, 1<<20 + 1} {
		add(api.ErrConfig, func(c *api.Config) { c.Slots = n })
		add(api.ErrConfig, func(c *api.Config) { c.Frame = n })
	}
	for _, n := range []int{-1, 0, 1<<17 + 1} {
		add(api.ErrConfig, func(c *api.Config) { c.In = n })
		add(api.ErrConfig, func(c *api.Config) { c.Out = n })
	}
	add(api.ErrConfig, func(c *api.Config) { c.Views = nil })
	add(api.ErrConfig, func(c *api.Config) {
		c.Views = []api.View{c.Views[0], c.Views[0], c.Views[0], c.Views[0], c.Views[0]}
	})
	return list
}
