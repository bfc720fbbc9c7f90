package serve_test

import (
	"math"
	"slices"
	"strings"
	"testing"

	"spate/api"
	"spate/serve"
)

// fed is a server that rests, with these connections, and with events of view 0's first window: the values of each key, in their order.
func fed(t *testing.T, c api.Config, keys string, conns ...int) *serve.Server {
	t.Helper()
	s := resting(t, c, conns...)
	for i, key := range keys {
		do(t, s, feed(0, string(key), 5, int64(i+1)))
	}
	settle(t, s)
	return s
}

// wantNext lets a task do a step, and asks for the lines that it told.
func wantNext(t *testing.T, s *serve.Server, task int, want ...api.Line) {
	t.Helper()
	from := len(s.Lines(0))
	step(t, s, task, 1)
	if got := s.Lines(from); !slices.EqualFunc(got, want, sameLine) {
		t.Fatalf("the step told\n%s; want\n%s", lineTexts(got), lineTexts(want))
	}
}

func wantState(t *testing.T, s *serve.Server, task, want int) {
	t.Helper()
	if got := s.States(); got[task] != want {
		t.Fatalf("States: %v; want %d of task %d", got, want, task)
	}
}

// wantHeard settles, and asks for what a client heard behind what it had heard.
func wantHeard(t *testing.T, s *serve.Server, c int, want ...api.Response) {
	t.Helper()
	ahead := len(responses(t, s, c))
	settle(t, s)
	got := responses(t, s, c)[ahead:]
	wantAnswers(t, got, want...)
}

func wantAnswers(t *testing.T, got []api.Response, want ...api.Response) {
	t.Helper()
	if len(got) != len(want) {
		t.Fatalf("%d answers: %+v; want %d", len(got), got, len(want))
	}
	for i, r := range got {
		if !slices.Equal(answered(t, r), answered(t, want[i])) {
			t.Errorf("answer %d: %+v; want %+v", i, r, want[i])
		}
	}
}

// Rows I, A, G, X: a get now, step by step: its point is in row G.
func TestGetNow(t *testing.T) {
	s := fed(t, small(), "ab", 1)
	q := get(7, 0, cell("b", 0))
	ask(t, s, 1, q, q)
	wantNext(t, s, 3, lineAsk(1, 0, q))
	wantNext(t, s, 3)
	wantNext(t, s, 3, linePoint(1, 0))
	wantNext(t, s, 3, lineAnswer(1, 0, rows(7, row("b", 0, 2))))
	wantNext(t, s, 3, lineAsk(1, 1, q))
	step(t, s, 3, 2)
	wantNext(t, s, 3, lineAnswer(1, 1, rows(7, row("b", 0, 2))))
	wantNext(t, s, 3)
	wantState(t, s, 3, api.TWaiting)
	wantHeard(t, s, 1, rows(7, row("b", 0, 2)), rows(7, row("b", 0, 2)))
	wantBook(t, s, 1, 0, 0)
}

// Rows A, G: a get at an epoch: its point is in row A, and it reads what was there at the seal.
func TestGetAtEpoch(t *testing.T) {
	s := fed(t, small(), "a", 1)
	ask(t, s, 1, pin(1))
	wantHeard(t, s, 1, sealed(1, 1))
	do(t, s, feed(0, "a", 5, 9), feed(0, "b", 5, 9))
	settle(t, s)
	q := multi(2, 1, cell("b", 0), cell("a", 0), cell("a", 0), cell("a", 10))
	want := rows(2, row("b", 0), row("a", 0, 1), row("a", 0, 1), row("a", 10))
	ask(t, s, 1, q)
	wantNext(t, s, 3, lineAsk(1, 1, q))
	wantNext(t, s, 3, linePoint(1, 1))
	wantNext(t, s, 3)
	wantNext(t, s, 3, lineAnswer(1, 1, want))
	wantHeard(t, s, 1, want)
	ask(t, s, 1, multi(3, 0, q.Cells...))
	wantHeard(t, s, 1, rows(3, row("b", 0, 9), row("a", 0, 1, 9), row("a", 0, 1, 9), row("a", 10)))
}

// Row G: cells that no view of this server has are not there.
func TestGetOfNoView(t *testing.T) {
	s := fed(t, small(), "a", 1)
	other, odd := cell("a", 0), cell("a", 3)
	other.View = 3
	ask(t, s, 1, multi(1, 0, other, odd))
	wantHeard(t, s, 1, rows(1, api.Row{Cell: other}, api.Row{Cell: odd}))
}

// Row A: of an epoch that the session does not hold it answers ErrEpoch, without locks; what another session holds is no help.
func TestNotHeld(t *testing.T) {
	s := fed(t, small(), "a", 1, 2)
	ask(t, s, 2, pin(0))
	settle(t, s)
	for i, q := range []api.Request{get(1, 1, cell("a", 0)), multi(2, 2, cell("a", 0)), scan(3, 1, 5), scan(4, api.MaxEpoch, 5)} {
		ask(t, s, 1, q)
		wantNext(t, s, 3, lineAsk(1, i, q))
		wantNext(t, s, 3, linePoint(1, i))
		wantNext(t, s, 3, lineAnswer(1, i, bad(q.Id, api.ErrEpoch)))
		wantNext(t, s, 3)
		wantState(t, s, 3, api.TWaiting)
	}
	ask(t, s, 1, join(5, 1), get(6, 1, cell("a", 0)), release(7, 1), get(8, 1, cell("a", 0)))
	settle(t, s)
	wantAnswers(t, responses(t, s, 1)[4:], done(5), rows(6, row("a", 0, 1)), done(7), bad(8, api.ErrEpoch))
}

// Rows A, N, Y, C, M, Z, X: a scan now, step by step: its epoch is sealed in row N, where its point is, and let go in row Z.
func TestScanNow(t *testing.T) {
	s := fed(t, with(func(c *api.Config) { c.Slots = 20 }), "abc", 1)
	q := scan(7, 0, 256)
	ask(t, s, 1, q)
	wantNext(t, s, 3, lineAsk(1, 0, q))
	wantNext(t, s, 3)
	wantBook(t, s, 1, 0, 0)
	wantNext(t, s, 3, linePoint(1, 0)) // N
	wantBook(t, s, 2, 1, 1)
	for range 4 { // Y, C: a and b; Y, C: c
		wantNext(t, s, 3)
	}
	wantNext(t, s, 3) // M
	wantBook(t, s, 2, 1, 1)
	wantStates(t, s, 3, 3, 3, 1)
	wantNext(t, s, 3) // Z
	wantBook(t, s, 2, 0, 1)
	wantStates(t, s, 3, 3, 1, 1)
	want := rows(7, row("a", 0, 1), row("b", 0, 2), row("c", 0, 3))
	wantNext(t, s, 3, lineAnswer(1, 0, want))
	wantHeard(t, s, 1, want)
	wantBook(t, s, 2, 0, 0)
}

// stepsOfScan are the steps of a session between a scan's row A and its row X.
func stepsOfScan(t *testing.T, s *serve.Server, q api.Request) int {
	t.Helper()
	ask(t, s, 1, q)
	step(t, s, 3, 2)
	from := len(s.Lines(0))
	for n := range 1 << 10 {
		step(t, s, 3, 1)
		if l := s.Lines(from); len(l) > 0 && l[len(l)-1].Kind == api.HAnswer {
			settle(t, s)
			return n
		}
	}
	t.Fatal("the scan does not end")
	return 0
}

// Row C: how often a shard is read: till a part is short, or there are Limit.
func TestChunks(t *testing.T) {
	for _, x := range []struct{ chunk, cells, limit, reads int }{
		{2, 0, 9, 1}, {2, 1, 9, 1}, {2, 2, 9, 2}, {2, 3, 9, 2}, {2, 4, 9, 3}, {2, 5, 9, 3},
		{2, 5, 1, 1}, {2, 5, 2, 1}, {2, 5, 3, 2}, {2, 5, 4, 2}, {2, 5, 5, 3}, {2, 4, 4, 2},
		{1, 3, 9, 4}, {1, 3, 3, 3}, {1, 3, 1, 1}, {3, 3, 2, 1}, {64, 5, 256, 1}, {5, 5, 256, 2},
	} {
		keys := "abcdefgh"[:x.cells]
		s := fed(t, with(func(c *api.Config) { c.Slots, c.Chunk, c.Pins = 100, x.chunk, 9 }), keys, 1)
		// N, M and Z, and a Y and a C for each part.
		if n := stepsOfScan(t, s, scan(0, 0, x.limit)); n != 3+2*x.reads {
			t.Errorf("%+v: %d steps", x, n)
		}
		ask(t, s, 1, pin(0))
		settle(t, s)
		// At an epoch the first part is read without row Y, and no epoch is let go.
		if n := stepsOfScan(t, s, scan(0, 2, x.limit)); n != 2*x.reads {
			t.Errorf("%+v: %d steps at an epoch", x, n)
		}
		var want []api.Row
		for i := range min(x.cells, x.limit) {
			want = append(want, row(keys[i:i+1], 0, int64(i+1)))
		}
		wantAnswers(t, responses(t, s, 1), rows(0, want...), sealed(0, 2), rows(0, want...))
	}
}

// Rows Y, C: shard by shard, each up to Limit; the answer has the first ones of all.
func TestScanOfShards(t *testing.T) {
	// Of three shards those of c, e, f are 0, of a, b, d, h 1, of g 2.
	s := fed(t, with(func(c *api.Config) { c.Slots, c.Shards, c.Out = 100, 3, 1<<10 }), "gfedcbah", 1)
	// N, M, Z; of shard 0 c e, f; of shard 1 a b, d h, none; of shard 2 g.
	if n := stepsOfScan(t, s, scan(1, 0, 9)); n != 3+2*(2+3+1) {
		t.Errorf("%d steps", n)
	}
	// Of shard 1 a b, d h alone: that is more than the limit.
	if n := stepsOfScan(t, s, scan(2, 0, 3)); n != 3+2*(2+2+1) {
		t.Errorf("%d steps", n)
	}
	all := []api.Row{row("a", 0, 7), row("b", 0, 6), row("c", 0, 5), row("d", 0, 4), row("e", 0, 3), row("f", 0, 2), row("g", 0, 1), row("h", 0, 8)}
	wantAnswers(t, responses(t, s, 1), rows(1, all...), rows(2, all[:3]...))
	for limit := 1; limit <= 9; limit++ {
		ask(t, s, 1, scan(limit, 0, limit))
		wantHeard(t, s, 1, rows(limit, all[:min(limit, 8)]...))
	}
}

// Row C: From counts, To does not; also where they are no cells, or the wrong way about.
func TestScanOfRange(t *testing.T) {
	s := fed(t, with(func(c *api.Config) { c.Slots, c.Shards, c.Chunk = 100, 2, 1 }), "abcd", 1)
	do(t, s, feed(0, "b", -5, 9), feed(0, "b", 15, 8))
	settle(t, s)
	all := []api.Row{row("a", 0, 1), row("b", -10, 9), row("b", 0, 2), row("b", 10, 8), row("c", 0, 3), row("d", 0, 4)}
	bounds := []api.Cell{{}, cell("a", 0), cell("a", 1), cell("b", -10), cell("b", 0), cell("b", 10), cell("b", 11), cell("d", 0), cell("d", 1), {View: 1}, {View: 4}}
	for _, from := range bounds {
		for _, to := range bounds {
			q := scan(0, 0, 256)
			q.From, q.To = from, to
			var want []api.Row
			for _, x := range all {
				if order(from, x.Cell) <= 0 && order(x.Cell, to) < 0 {
					want = append(want, x)
				}
			}
			ask(t, s, 1, q)
			wantHeard(t, s, 1, rows(0, want...))
		}
	}
}

// T2, rows N, C: a scan tells what was there at its point, whatever is written, killed and swept while it reads.
func TestScanIsOfOneEpoch(t *testing.T) {
	for _, late := range []bool{false, true} {
		s := fed(t, with(func(c *api.Config) { c.Slots, c.Chunk = 100, 1 }), "bcd", 1, 2)
		q := scan(1, 0, 256)
		if late {
			ask(t, s, 1, pin(0))
			settle(t, s)
			q.Epoch = 1
		}
		ask(t, s, 1, q)
		step(t, s, 3, 2)
		if !late {
			step(t, s, 3, 2) // N, Y
		}
		step(t, s, 3, 1) // b is read
		do(t, s, feed(0, "a", 5, 9), feed(0, "b", 5, 9), feed(0, "c", 5, 9), feed(0, "bb", 5, 9), mark(0, 10))
		ask(t, s, 2, pin(0))
		for range 200 {
			for _, task := range []int{0, 1, 2, 4} {
				if s.States()[task] == api.TReady {
					step(t, s, task, 1)
				}
			}
		}
		wantMap(t, s)
		settle(t, s)
		got := responses(t, s, 1)
		wantAnswers(t, got[len(got)-1:], rows(1, row("b", 0, 1), row("c", 0, 2), row("d", 0, 3)))
	}
}

// Row B: what pins, joins and releases are answered.
func TestHoldings(t *testing.T) {
	s := resting(t, small(), 1, 2)
	for _, x := range []struct {
		c    int
		q    api.Request
		want api.Response
		held int
	}{
		{1, pin(1), sealed(1, 1), 1},
		{1, pin(2), sealed(2, 2), 2},
		{1, pin(3), bad(3, api.ErrPins), 2},
		{1, join(4, 1), done(4), 2},
		{2, join(5, 1), done(5), 2},
		{2, join(6, 3), bad(6, api.ErrEpoch), 2},
		{1, release(7, 1), done(7), 2},
		{1, release(8, 1), bad(8, api.ErrEpoch), 2},
		{1, pin(9), sealed(9, 3), 3},
		{2, join(10, 2), done(10), 3},
		{2, join(11, 3), bad(11, api.ErrPins), 3},
		{2, release(12, 3), bad(12, api.ErrEpoch), 3},
		{2, release(13, 1), done(13), 2},
		{2, join(14, 1), bad(14, api.ErrEpoch), 2},
		{1, release(15, 2), done(15), 2},
		{1, release(16, 3), done(16), 1},
		{2, release(17, 2), done(17), 0},
	} {
		ask(t, s, x.c, x.q)
		wantHeard(t, s, x.c, x.want)
		now, held, live := s.Book()
		if held != x.held || live != held || now < 2 || now > 4 {
			t.Errorf("%+v: %d, %d, %d", x, now, held, live)
		}
	}
}

// Row B: a pin, a join, a release, step by step; only a release that is done wakes the reclaimer.
func TestSettled(t *testing.T) {
	s := resting(t, small(), 1)
	for i, x := range []struct {
		q      api.Request
		want   api.Response
		sweeps int
	}{
		{join(1, 1), bad(1, api.ErrEpoch), api.TWaiting},
		{pin(2), sealed(2, 1), api.TWaiting},
		{join(3, 1), done(3), api.TWaiting},
		{release(4, 2), bad(4, api.ErrEpoch), api.TWaiting},
		{release(5, 1), done(5), api.TReady},
		{stats(6), counts(6, api.Stats{Now: 2}), api.TWaiting},
	} {
		ask(t, s, 1, x.q)
		wantNext(t, s, 3, lineAsk(1, i, x.q))
		wantNext(t, s, 3)
		wantNext(t, s, 3, linePoint(1, i))
		wantState(t, s, 2, x.sweeps)
		wantNext(t, s, 3, lineAnswer(1, i, x.want))
		wantHeard(t, s, 1, x.want)
	}
}

// Row B: the counts.
func TestStats(t *testing.T) {
	s := resting(t, with(func(c *api.Config) { c.Slots = 5 }), 1)
	most := int64(1<<63 - 1)
	do(t, s, mark(0, 0), feed(0, "a", 5, most), feed(0, "a", 5, 1), feed(0, "a", 5, 2), feed(0, "a", -1, 0), feed(0, "a", -2, 0), feed(0, "a", -3, 0))
	do(t, s, feed(0, "b", 5, 0), feed(0, "a", 5, 0), feed(0, "b", 5, 0), feed(0, "b", 5, 0))
	do(t, s, feed(0, "c", 5, 0), feed(0, "a", 15, 0), feed(0, "d", 5, 0), feed(0, "e", 5, 0))
	ask(t, s, 1, pin(0))
	settle(t, s)
	ask(t, s, 1, stats(3))
	wantHeard(t, s, 1, counts(3, api.Stats{Taken: 5, Late: 3, Overflow: 2, Full: 4, Cells: 2, Now: 2}))
	do(t, s, mark(0, 10))
	settle(t, s)
	ask(t, s, 1, stats(4), scan(0, 0, 1), stats(5))
	wantHeard(t, s, 1, counts(4, api.Stats{Taken: 5, Late: 3, Overflow: 2, Full: 4, Now: 2}), rows(0), counts(5, api.Stats{Taken: 5, Late: 3, Overflow: 2, Full: 4, Now: 3}))
}

// Row A: what each request asks for first: who waits while which locks are taken.
func TestNeeds(t *testing.T) {
	// Of two shards those of a and c are 0, of b and d 1. Session 2 has the locks of its own request.
	gate, book, zero, one := pin(0), join(0, 1), multi(0, 0, cell("a", 0)), multi(0, 0, cell("b", 0))
	for i, x := range []struct {
		has, q api.Request
		waits  bool
	}{
		{gate, pin(1), true}, {gate, scan(1, 0, 1), true}, {gate, join(1, 1), true}, {gate, release(1, 1), true}, {gate, stats(1), true},
		{gate, get(1, 0, cell("a", 0)), false}, {gate, get(1, 1, cell("b", 0)), false}, {gate, scan(1, 1, 1), false},
		{book, pin(1), true}, {book, scan(1, 0, 1), true}, {book, join(1, 1), true}, {book, release(1, 1), true}, {book, stats(1), false},
		{book, get(1, 0, cell("a", 0)), false}, {book, scan(1, 1, 1), false},
		{stats(0), stats(1), true}, {stats(0), pin(1), true}, {stats(0), scan(1, 0, 1), true}, {stats(0), join(1, 1), false}, {stats(0), release(1, 1), false},
		{zero, pin(1), false}, {zero, scan(1, 1, 1), false}, {zero, multi(1, 0, cell("a", 0), cell("b", 0)), false},
		{one, scan(1, 0, 1), false}, {one, stats(1), false},
	} {
		s := resting(t, with(func(c *api.Config) { c.Shards = 2 }), 1, 2)
		ask(t, s, 1, pin(0))
		settle(t, s)
		ask(t, s, 2, x.has)
		step(t, s, 4, 2)
		ask(t, s, 1, x.q)
		step(t, s, 3, 2)
		if waits := s.States()[3] == api.TLocked; waits != x.waits {
			t.Errorf("%d: %+v waits: %v", i, x.q, waits)
		}
		settle(t, s)
	}
}

// Row A: which shards a request wants, shared.
func TestNeedsOfShards(t *testing.T) {
	a, b, c := cell("a", 0), cell("b", 0), cell("c", 0)
	for i, x := range []struct {
		fed   string // the key of the event whose shard an operator has
		q     api.Request
		waits bool
	}{
		{"a", get(1, 0, a), true}, {"a", get(1, 0, c), true}, {"a", get(1, 0, b), false},
		{"a", get(1, 1, a), true}, {"a", get(1, 1, b), false}, {"b", get(1, 1, b), true},
		{"b", multi(1, 0, a, c), false}, {"b", multi(1, 0, a, b, a, b), true}, {"a", multi(1, 0, b, b, a, c), true},
		{"a", scan(1, 1, 1), true}, {"b", scan(1, 1, 1), false},
	} {
		s := resting(t, with(func(c *api.Config) { c.Shards = 2 }), 1)
		ask(t, s, 1, pin(0))
		settle(t, s)
		do(t, s, feed(0, x.fed, 5, 1))
		step(t, s, 0, 1)
		step(t, s, 1, 1)
		ask(t, s, 1, x.q)
		step(t, s, 3, 2)
		if waits := s.States()[3] == api.TLocked; waits != x.waits {
			t.Errorf("%d: %+v waits: %v", i, x.q, waits)
		}
		settle(t, s)
	}
}

// The limits that meet: an event of 256 cells, whose key is the longest, and time and value the least; and an answer that has them all.
func TestGreatest(t *testing.T) {
	s := resting(t, with(func(c *api.Config) {
		c.Views = nil
		for late := range int64(api.MaxViews) {
			c.Views = append(c.Views, api.View{Size: api.MaxSpan, Slide: api.MaxSpan / api.MaxPanes, Late: late})
		}
		c.Slots, c.Chunk, c.Out = 512, 64, 1<<17
	}), 1)
	key := "\x00" + strings.Repeat("\xff", api.MaxKey-1)
	e := feed(0, key, -api.MaxTime, math.MinInt64)
	do(t, s, e)
	step(t, s, 0, 1)
	step(t, s, 1, 512)
	wantLines(t, s, 1)
	step(t, s, 1, 1)
	wantLines(t, s, 1, lineEvent(0, 0, e, api.FTaken))
	wantUnits(t, s, 1, 512)
	all := s.Map()
	if len(all) != 256 || all[0].Agg != row("a", 0, math.MinInt64).Agg {
		t.Fatalf("%d cells: %+v", len(all), all[:1])
	}
	ask(t, s, 1, scan(api.MaxEpoch, 0, api.MaxRows))
	wantHeard(t, s, 1, rows(api.MaxEpoch, all...))
	do(t, s, feed(0, "a", -api.MaxTime, 1), mark(0, -api.MaxTime+api.MaxSpan+3))
	settle(t, s)
	wantMap(t, s)
	wantUnits(t, s, 0, 0)
}
