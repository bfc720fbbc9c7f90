package serve_test

import (
	"fmt"
	"math"
	"math/rand/v2"
	"slices"
	"testing"

	"spate/api"
	"spate/serve"
)

// P1802 to P1807, T1, T2: any script, step by step, against the likeness; and what was told has the meaning that it is to have.
func TestAnyScript(t *testing.T) {
	seen := map[string]int{}
	for seed := range uint64(60) {
		r := rand.New(rand.NewPCG(seed, 18))
		c := anyConfig(r)
		x, events := newBoth(t, c), newScript(r, c)
		events.book = x.s.Book
		for range 1200 {
			if r.IntN(30) == 0 {
				x.round()
				continue
			}
			seen[x.do(events.next(t)).Error()]++
		}
		x.settle()
		w := newStory(t, c)
		for _, l := range x.s.Lines(0) {
			seen[fmt.Sprint("line ", l.Kind)]++
			seen[fmt.Sprint("fate ", l.Fate)]++
			seen[fmt.Sprint("answer ", l.Response.Kind, " ", l.Response.Err)]++
			w.line(l)
		}
		w.same(x.s)
	}
	for what, least := range map[string]int{
		"ok": 60000, "arg": 20, "kind": 100, "field": 300, "twice": 10, "gone": 300, "down": 5,
		"line 1": 3000, "line 2": 2000, "line 3": 1000, "line 4": 150, "line 7": 1000, "line 8": 80, "line 9": 100,
		"fate 2": 100, "fate 3": 40, "fate 4": 40, "fate 35": 100,
		"answer 1 ok": 200, "answer 2 ok": 100, "answer 3 ok": 30, "answer 4 ok": 20, "answer 5 busy": 80, "answer 5 epoch": 100, "answer 5 pins": 5, "answer 5 down": 10, "answer 5 frame": 10,
	} {
		if seen[what] < least {
			t.Errorf("%s: %d; want %d: this tests too little", what, seen[what], least)
		}
	}
}

// T1: at each step, not in the end alone, what is there is what the lines say, but for the event that is written right then.
func TestMapAtEachLine(t *testing.T) {
	for seed := range uint64(40) {
		r := rand.New(rand.NewPCG(seed, 19))
		c := anyConfig(r)
		c.Operators = 1
		for i := range c.Views {
			// One window for each time, and one view: an event is written in one step.
			c.Views[i].Size = c.Views[i].Slide
		}
		c.Views = c.Views[:1]
		s, events, w := newServer(t, c), newScript(r, c), newStory(t, c)
		events.book = s.Book
		told := 0
		for range 600 {
			s.Do(events.next(t))
			lines := s.Lines(told)
			told += len(lines)
			for _, l := range lines {
				w.line(l)
			}
			w.same(s)
		}
	}
}

// T3: with one source, and nothing full, the map and the counts hang on the items alone, whatever is picked, and whatever sessions ask.
func TestFunctionOfItems(t *testing.T) {
	for seed := range uint64(30) {
		r := rand.New(rand.NewPCG(seed, 20))
		c := anyConfig(r)
		c.Sources, c.Slots = 1, 1<<12
		items := newScript(r, c)
		var list []api.Event
		for range 60 {
			list = append(list, items.item())
		}
		var first []string
		for turn := range 4 {
			c.Box, c.Chunk, c.Admit, c.Shards = 1+r.IntN(4), 1+r.IntN(4), 1+r.IntN(4), 1+r.IntN(6)
			got := playItems(t, rand.New(rand.NewPCG(seed, uint64(turn))), c, list)
			if turn == 0 {
				first = got
			}
			if !slices.Equal(got, first) {
				t.Fatalf("%v; want %v", got, first)
			}
		}
	}
}

// T3: with several sources, none of which gives a mark, it hangs on the items of each in its order.
func TestFunctionOfEvents(t *testing.T) {
	for seed := range uint64(30) {
		r := rand.New(rand.NewPCG(seed, 21))
		c := anyConfig(r)
		c.Slots = 1 << 12
		var list []api.Event
		for range 60 {
			list = append(list, feed(r.IntN(c.Sources), string(rune('a'+r.IntN(5))), r.Int64N(40), r.Int64N(100)))
		}
		first := playItems(t, r, c, list)
		for range 3 {
			slices.SortStableFunc(list, func(a, b api.Event) int { return a.A - b.A })
			if got := playItems(t, r, c, list); !slices.Equal(got, first) {
				t.Fatalf("%v; want %v", got, first)
			}
		}
	}
}

// playItems gives items, with sessions and picks between; what is there in the end, and the counts.
func playItems(t *testing.T, r *rand.Rand, c api.Config, list []api.Event) []string {
	t.Helper()
	_, events := mildConfig(r)
	s := newServer(t, c)
	for i := 0; i < len(list); {
		if r.IntN(8) == 0 {
			do(t, s, list[i])
			i++
			continue
		}
		e := events.next(t)
		if e.Kind != api.EFeed && e.Kind != api.EMark {
			s.Do(e)
		}
	}
	settle(t, s)
	var fates [5]int
	for _, l := range s.Lines(0) {
		if l.Kind == api.HEvent {
			fates[l.Fate]++
		}
	}
	if fates[api.FFull] > 0 {
		t.Fatal("there is too little room for this test")
	}
	return []string{fmt.Sprint(s.Map()), fmt.Sprint(fates)}
}

// P1808, P4: an event that is refused changes nothing: with or without it all goes the same way.
func TestRefusedChangesNothing(t *testing.T) {
	refused := map[api.Errno]int{}
	for seed := range uint64(25) {
		r := rand.New(rand.NewPCG(seed, 22))
		c := anyConfig(r)
		one, other, events := newServer(t, c), newServer(t, c), newScript(r, c)
		for range 500 {
			e := events.next(t)
			for range r.IntN(3) {
				wrong := wrongEvent(r)
				before := ""
				if r.IntN(10) == 0 {
					before = print(one)
				}
				errno := tryWrong(one, wrong)
				refused[errno]++
				if errno == api.OK {
					other.Do(wrong)
				} else if before != "" {
					wantPrint(t, one, before)
				}
			}
			if a, b := one.Do(e), other.Do(e); a != b {
				t.Fatalf("Do(%+v): %v, then %v", e, a, b)
			}
		}
		settle(t, one)
		settle(t, other)
		wantPrint(t, one, print(other))
	}
	for _, errno := range []api.Errno{api.ErrArg, api.ErrKind, api.ErrField, api.ErrKey, api.ErrTime, api.ErrTwice, api.ErrGone, api.ErrDown} {
		if refused[errno] < 10 {
			t.Errorf("%v: %d: this tests too little", errno, refused[errno])
		}
	}
}

func tryWrong(s *serve.Server, e api.Event) api.Errno { return s.Do(e) }

// wrongEvent is one that is often refused.
func wrongEvent(r *rand.Rand) api.Event {
	n := []int{-1, 0, 1, 2, 3, 64, 65}[r.IntN(7)]
	switch r.IntN(9) {
	case 0:
		return feed(n, "", 0, 0)
	case 1:
		return feed(0, "a", 1<<61, 0)
	case 2:
		return mark(n, -1<<61)
	case 3:
		return open([]int{-1, 0, 1, 65}[r.IntN(4)])
	case 4:
		return send(n, []byte{1})
	case 5:
		return bring(n, -1)
	case 6:
		return api.Event{Kind: r.IntN(12) - 1, N: 1, Value: int64(r.IntN(2))}
	case 7:
		return fetch(n, 0)
	}
	return api.Event{Kind: api.ECut, A: []int{-1, 0, 65, 60}[r.IntN(4)]}
}

// P3, P7: the same calls tell the same; two servers have nothing in common.
func TestTwiceTheSame(t *testing.T) {
	for seed := range uint64(15) {
		play := func(s *serve.Server, with *serve.Server) {
			r := rand.New(rand.NewPCG(seed, 23))
			events := newScript(r, anyConfig(rand.New(rand.NewPCG(seed, 24))))
			noise := newScript(rand.New(rand.NewPCG(seed, 25)), small())
			for i := range 500 {
				s.Do(events.next(t))
				if i%40 == 0 {
					s.Round()
				}
				if with != nil {
					with.Do(noise.next(t))
				}
			}
		}
		c := anyConfig(rand.New(rand.NewPCG(seed, 24)))
		one, other := newServer(t, c), newServer(t, c)
		play(one, nil)
		play(other, newServer(t, small()))
		wantPrint(t, one, print(other))
		wantPrint(t, one, print(one))
	}
}

// P1: whatever numbers the calls are given, they end, and none panics.
func TestWhateverIsGiven(t *testing.T) {
	edges := []int{math.MinInt, math.MinInt + 1, -1 << 32, -65, -1, 0, 1, 2, 8, 63, 64, 65, 1 << 32, math.MaxInt - 1, math.MaxInt}
	r := rand.New(rand.NewPCG(1, 26))
	for range 20 {
		x := newBoth(t, anyConfig(r))
		events := newScript(r, x.p.c)
		for range 100 {
			x.do(events.next(t))
		}
		for kind := range 12 {
			for range 40 {
				e := api.Event{Kind: kind, A: edges[r.IntN(len(edges))], N: edges[r.IntN(len(edges))]}
				if r.IntN(2) == 0 {
					e.N = 0
				}
				if r.IntN(3) == 0 {
					e.Time, e.Value = int64(edges[r.IntN(len(edges))]), int64(edges[r.IntN(len(edges))])
				}
				if e.Kind == api.EPick && e.N < -1<<40 {
					e.N /= 2 // the likeness wraps
				}
				x.do(e)
			}
		}
		for _, n := range edges {
			x.s.Lines(n)
			x.s.Heard(n)
			serve.Check(api.Config{Views: []api.View{{Size: int64(n), Slide: int64(n), Late: int64(n)}}, Sources: n, Operators: n, Shards: n, Slots: n})
		}
		x.same()
	}
}

// P1: a server that New did not make has no tasks and no sources, and is down.
func TestServerOfNothing(t *testing.T) {
	s := &serve.Server{}
	for range 2 {
		wantErrno(t, s, feed(0, "a", 1, 1), api.ErrArg)
		wantErrno(t, s, mark(0, 1), api.ErrArg)
		wantErrno(t, s, open(1), api.ErrDown)
		wantErrno(t, s, send(1, []byte{1}), api.ErrGone)
		wantErrno(t, s, bring(1, 1), api.ErrGone)
		wantErrno(t, s, fetch(1, 1), api.ErrGone)
		wantErrno(t, s, cut(1), api.ErrGone)
		wantErrno(t, s, stop(), api.ErrTwice)
		wantErrno(t, s, pick(3), api.OK)
		wantErrno(t, s, api.Event{}, api.ErrKind)
		wantStates(t, s)
		wantMap(t, s)
		wantUnits(t, s, 0)
		wantLines(t, s, -1)
		wantIdle(t, s, true)
		wantRound(t, s, 0)
		b, end := s.Heard(1)
		wantBytes(t, b, nil)
		if now, held, live := s.Book(); end || held != 0 || live != 0 || now != 0 {
			t.Errorf("%v; Book: %d, %d, %d", end, now, held, live)
		}
	}
}
