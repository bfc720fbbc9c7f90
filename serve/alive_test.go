package serve_test

import (
	"math/rand/v2"
	"slices"
	"testing"

	"spate/api"
	"spate/serve"
)

// anyRound picks each task that is ready at its beginning once at least, in any order, and others besides; then it brings and fetches all bytes.
func anyRound(t *testing.T, r *rand.Rand, s *serve.Server, opened int) {
	t.Helper()
	var first []int
	for task, state := range s.States() {
		if state == api.TReady {
			first = append(first, task)
		}
	}
	r.Shuffle(len(first), func(i, j int) { first[i], first[j] = first[j], first[i] })
	for _, task := range first {
		step(t, s, task, 1) // who is ready stays so till it is picked
		if r.IntN(3) == 0 {
			// One of those that the round began with, of which a step more does not matter.
			if again := first[r.IntN(len(first))]; s.States()[again] == api.TReady && slices.Index(first, again) < slices.Index(first, task) {
				step(t, s, again, 1)
			}
		}
	}
	for c := 1; c <= opened; c++ {
		s.Do(bring(c, 1<<20))
		s.Do(fetch(c, 1<<20))
	}
}

// bound is T5's number.
func bound(c api.Config, tasks, bytes, cells int) int {
	p := 0
	for _, v := range c.Views {
		p += int((v.Size + v.Slide - 1) / v.Slide)
	}
	return 40 + 8*(tasks+2)*(2*p+8)*(bytes+cells+c.Shards+8)
}

// pendingOf are the requests that were begun and not answered, of sessions that are not gone.
func pendingOf(lines []api.Line) map[[2]int]bool {
	pending := map[[2]int]bool{}
	for _, l := range lines {
		switch l.Kind {
		case api.HAsk:
			pending[[2]int{l.Who, l.No}] = true
		case api.HAnswer:
			delete(pending, [2]int{l.Who, l.No})
		case api.HLeave:
			for key := range pending {
				if key[0] == l.Who {
					delete(pending, key)
				}
			}
		}
	}
	return pending
}

// T5: from whatever state, with rounds of any order, each request that was begun is answered in time.
func TestAlive(t *testing.T) {
	answered := 0
	for seed := range uint64(60) {
		r := rand.New(rand.NewPCG(seed, 30))
		c, events := mildConfig(r)
		s := newServer(t, c)
		events.book = s.Book
		for range 300 + r.IntN(300) {
			s.Do(events.next(t))
		}
		most := bound(c, len(s.States()), 0, len(s.Map()))
		before := pendingOf(s.Lines(0))
		for n := 0; len(pendingOf(s.Lines(0))) > 0; n++ {
			if n > most {
				t.Fatalf("%v are not answered in %d rounds", pendingOf(s.Lines(0)), n)
			}
			anyRound(t, r, s, events.opened)
			// More items come in meanwhile, and do not keep them from it.
			s.Do(events.item())
		}
		answered += len(before)
	}
	if answered < 60 {
		t.Errorf("%d were begun: this tests too little", answered)
	}
}

// T10: behind the shutdown all sessions end, all that was begun is answered, nothing is held, nothing is left.
func TestDown(t *testing.T) {
	for seed := range uint64(60) {
		r := rand.New(rand.NewPCG(seed, 31))
		c, events := mildConfig(r)
		s := newServer(t, c)
		events.book = s.Book
		for range 300 + r.IntN(300) {
			s.Do(events.next(t))
		}
		do(t, s, stop())
		for n := 0; !s.Idle(); n++ {
			if n > 1<<11 {
				t.Fatalf("it does not come to rest: %v", s.States())
			}
			anyRound(t, r, s, events.opened)
		}
		states := s.States()
		for task, state := range states {
			want := api.TWaiting
			if task > c.Sources+c.Operators {
				want = api.TEnded
			}
			if state != want {
				t.Fatalf("States: %v", states)
			}
		}
		if _, held, live := s.Book(); held != 0 || live != 0 {
			t.Errorf("%d are held, %d are live", held, live)
		}
		asked, told := map[int]int{}, map[int]int{}
		for _, l := range s.Lines(0) {
			switch l.Kind {
			case api.HAsk:
				asked[l.Who]++
			case api.HAnswer:
				told[l.Who]++
			}
		}
		for c := 1; c <= events.opened; c++ {
			l := responses(t, s, c)
			if asked[c] != told[c] || len(l) != asked[c]+1 || l[asked[c]].Err != api.ErrDown {
				t.Errorf("connection %d asked %d, was told %d, heard %+v", c, asked[c], told[c], l)
			}
			wantEnd(t, s, c, true)
		}
		if s.Most() > 2 {
			t.Errorf("Most: %d", s.Most())
		}
	}
}

// T4, T1: what a client heard is what the lines say that it was answered.
func TestHeardIsAnswered(t *testing.T) {
	for seed := range uint64(40) {
		r := rand.New(rand.NewPCG(seed, 32))
		c := anyConfig(r)
		s, events := newServer(t, c), newScript(r, c)
		events.book = s.Book
		for range 600 {
			if e := events.next(t); e.Kind != api.ECut {
				s.Do(e)
			}
		}
		settle(t, s)
		want := map[int][]api.Response{}
		for _, l := range s.Lines(0) {
			if l.Kind == api.HAnswer || l.Kind == api.HBad {
				want[l.Who] = append(want[l.Who], l.Response)
			}
		}
		for c := 1; c <= events.opened; c++ {
			wantAnswers(t, responses(t, s, c), want[c]...)
		}
	}
}
