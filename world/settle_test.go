package world_test

import (
	"math"
	"math/rand/v2"
	"testing"

	"spate/api"
	"spate/world"
)

// P2002: it does so many rounds at most, and no more than are needed; below 1 none.
func TestRounds(t *testing.T) {
	// All tasks wait; then the source gives an event, and the operator takes it, reads, writes: a round each, and one more till it waits again.
	s := script(join(picks(3), []api.Event{feed(0, "k", 3, 5)})...)
	all := rest(t, s)
	if all.Rounds < 3 {
		t.Fatalf("%d rounds: this tests too little", all.Rounds)
	}
	for _, rounds := range []int{math.MinInt, -1, 0} {
		wantTold(t, settle(t, s, rounds), run(t, s))
	}
	for rounds := range all.Rounds + 3 {
		w := settle(t, s, rounds)
		wantTold(t, w, plain(t, s, rounds))
		if w.Rounds != min(rounds, all.Rounds) || w.Idle != (rounds >= all.Rounds) {
			t.Errorf("%d rounds at most: %d, idle %v", rounds, w.Rounds, w.Idle)
		}
	}
	wantTold(t, settle(t, s, math.MaxInt), all)
}

// P2002: the steps of the rounds count besides those of the script.
func TestStepsOfRounds(t *testing.T) {
	wantNumbers(t, rest(t, script(picks(3)...)), true, 3, 0)
	wantNumbers(t, rest(t, script(picks(2)...)), true, 3, 1)
	wantNumbers(t, rest(t, script(pick(0))), true, 3, 1)
	// The event: the source gives it and waits; the operator takes it, reads, writes, waits.
	wantNumbers(t, rest(t, script(join(picks(3), []api.Event{feed(0, "k", 3, 5)})...)), true, 3+2+4, 5)
	// Without windows there is nothing to read and to write.
	c := with(func(c *api.Config) { c.Views[0].Size = 1 })
	wantNumbers(t, rest(t, world.Script{Config: c, Events: join(picks(3), []api.Event{feed(0, "k", 3, 5)})}), true, 3+2+2, 3)
}

// P2002: each round brings and fetches all bytes.
func TestBytesOfRounds(t *testing.T) {
	c := with(func(c *api.Config) { c.Admit, c.In, c.Out = 2, 1, 1 })
	w := rest(t, world.Script{Config: c, Events: []api.Event{open(2), open(1), ask(t, 1, pin(1), pin(2)), ask(t, 2, stats(3), get(4, 0, cell("k", 0)))}})
	wantHeard(t, w, heard(sealed(1, 1), bad(2, api.ErrPins)), heard(counts(3, api.Stats{Now: 1}), rows(4, row("k", 0))))
}

// P2001, P2002: whatever the script is, Run and Settle tell what the chapter says word for word.
func TestAnyScript(t *testing.T) {
	seen := map[string]int{}
	for seed := range uint64(60) {
		r := rand.New(rand.NewPCG(seed, 1))
		s := anyScript(t, r, 900)
		w := run(t, s)
		wantTold(t, w, plain(t, s, 0))
		for range 3 {
			rounds := r.IntN(60)
			wantTold(t, settle(t, s, rounds), plain(t, s, rounds))
		}
		for _, errno := range w.Errs {
			seen[errno.Error()]++
		}
		if w.Idle {
			seen["idle"]++
		}
		w = rest(t, s)
		wantTold(t, w, plain(t, s, enough))
		seen["lines"] += len(w.Lines)
		seen["rows"] += len(w.Map)
		for _, h := range w.Heard {
			seen["responses"] += len(h.Responses)
			if h.Rest > 0 {
				seen["rest"]++
			}
			if h.End {
				seen["end"]++
			}
		}
	}
	for what, least := range map[string]int{"ok": 40000, "kind": 20, "field": 50, "twice": 10, "gone": 50, "lines": 5000, "rows": 100, "responses": 400, "rest": 3, "end": 40} {
		if seen[what] < least {
			t.Errorf("%s: %d; want %d: this tests too little", what, seen[what], least)
		}
	}
}

// P1: whatever numbers the events have, it ends, and nothing panics.
func TestWhateverIsGiven(t *testing.T) {
	edges := []int{math.MinInt, math.MinInt + 1, -1 << 32, -65, -1, 0, 1, 2, 8, 63, 64, 65, 1 << 32, math.MaxInt - 1, math.MaxInt}
	r := rand.New(rand.NewPCG(1, 2))
	any := func() int { return edges[r.IntN(len(edges))] }
	for range 300 {
		s := world.Script{Config: anyConfig(r)}
		for range 60 {
			e := api.Event{Kind: r.IntN(12) - 1, A: any() * r.IntN(2), N: any() * r.IntN(2)}
			if r.IntN(3) == 0 {
				e.Key, e.Time, e.Value = string(make([]byte, r.IntN(40))), int64(any()), int64(any())
			}
			if r.IntN(3) == 0 {
				e.Data = make([]byte, r.IntN(9))
			}
			s.Events = append(s.Events, e)
		}
		rounds := any()
		if w := settle(t, s, rounds); w.Rounds > max(rounds, 0) || len(w.Errs) != len(s.Events) {
			t.Errorf("%d rounds of %d at most", w.Rounds, rounds)
		}
		if world.Bound(s.Config, any(), any(), any()) < -1 {
			t.Error("a bound below -1")
		}
		s.Config = api.Config{Views: []api.View{{Size: int64(any()), Slide: int64(any()), Late: int64(any())}}, Sources: any(), Operators: any(), Shards: any(), Slots: any(), Box: any(), Admit: any(), Pins: any(), Chunk: any(), Frame: any(), In: any(), Out: any()}
		if world.Bound(s.Config, 1, 1, 1) >= 0 {
			t.Errorf("a bound of %+v", s.Config)
		}
		world.Run(s)
		world.Farm(any(), []world.Script{s})
	}
}
