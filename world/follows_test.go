package world_test

import (
	"bytes"
	"math/rand/v2"
	"slices"
	"testing"

	"spate/api"
	"spate/codec"
	"spate/wire"
	"spate/world"
)

// P2005, P3: the same script tells the same again.
func TestTwiceTheSame(t *testing.T) {
	for seed := range uint64(30) {
		s := anyScript(t, rand.New(rand.NewPCG(seed, 7)), 400)
		wantTold(t, run(t, s), run(t, s))
		wantTold(t, settle(t, s, 20), settle(t, s, 20))
		wantTold(t, rest(t, s), rest(t, s))
	}
}

// P2006: what a front of the events tells is a front of what all tell.
func TestFronts(t *testing.T) {
	for seed := range uint64(25) {
		s := anyScript(t, rand.New(rand.NewPCG(seed, 8)), 400)
		var fronts []world.Told
		for n := 0; n <= len(s.Events); n += 5 {
			fronts = append(fronts, run(t, world.Script{Config: s.Config, Events: s.Events[:n]}))
		}
		fronts = append(fronts, run(t, s), settle(t, s, 9), rest(t, s))
		for i, w := range fronts[1:] {
			wantFront(t, fronts[i], w)
		}
	}
}

func wantFront(t *testing.T, front, w world.Told) {
	t.Helper()
	if len(front.Errs) > len(w.Errs) || !slices.Equal(front.Errs, w.Errs[:len(front.Errs)]) {
		t.Fatalf("Errs %v, then %v", front.Errs, w.Errs)
	}
	if len(front.Lines) > len(w.Lines) || !slices.EqualFunc(front.Lines, w.Lines[:len(front.Lines)], sameLine) {
		t.Fatalf("Lines %+v, then %+v", front.Lines, w.Lines)
	}
	if len(front.Heard) > len(w.Heard) {
		t.Fatalf("%d connections, then %d", len(front.Heard), len(w.Heard))
	}
	for c, h := range front.Heard {
		a, aBytes := bytesOf(t, h)
		b, bBytes := bytesOf(t, w.Heard[c])
		if !bytes.HasPrefix(b, a) || aBytes > bBytes || h.End && (aBytes != bBytes || !w.Heard[c].End) {
			t.Fatalf("connection %d heard %+v, then %+v", c+1, h, w.Heard[c])
		}
	}
}

// P2007, T1, T4: a connection that heard all heard the answers of its lines, and then the one that broke it; who cut heard a front of that.
func TestHeardIsAnswered(t *testing.T) {
	whole, broken, fronts, parts := 0, 0, 0, 0
	for seed := range uint64(80) {
		r := rand.New(rand.NewPCG(seed, 9))
		s := anyScript(t, r, 600)
		if r.IntN(3) == 0 {
			s.Events = append(s.Events, stop())
		}
		w := rest(t, s)
		want, bad := toldTo(w)
		cuts := cutIn(s, w)
		for i, h := range w.Heard {
			c := i + 1
			if cuts[c] {
				fronts++
				parts += min(h.Rest, 1)
				b, n := bytesOf(t, h)
				full := answered(t, want[c]...)
				// An answer is told as a line when its last byte is in the out buffer: a cut may be ahead of that.
				if !bytes.HasPrefix(full, b) || n > len(full)+1<<16 || !h.End {
					t.Fatalf("connection %d heard %+v; want a front of %+v", c, h, want[c])
				}
				continue
			}
			whole += len(h.Responses)
			broken += bad[c]
			if !sameHeard(h, world.Heard{Responses: want[c], End: bad[c] > 0}) {
				t.Fatalf("connection %d heard %+v; want %+v", c, h, want[c])
			}
		}
	}
	if whole < 1000 || broken < 60 || fronts < 20 || parts < 3 {
		t.Errorf("%d responses, %d broken off, %d cut, %d within a response: this tests too little", whole, broken, fronts, parts)
	}
}

// toldTo are the responses of each connection's HAnswer lines, and behind them that of its HBad one; and how many of these there were.
func toldTo(w world.Told) (map[int][]api.Response, map[int]int) {
	told, bad := map[int][]api.Response{}, map[int]int{}
	for _, l := range w.Lines {
		if l.Kind == api.HAnswer || l.Kind == api.HBad {
			told[l.Who] = append(told[l.Who], l.Response)
		}
		if l.Kind == api.HBad {
			bad[l.Who]++
		}
	}
	return told, bad
}

func cutIn(s world.Script, w world.Told) map[int]bool {
	cuts := map[int]bool{}
	for i, e := range s.Events {
		if e.Kind == api.ECut && w.Errs[i] == api.OK {
			cuts[e.A] = true
		}
	}
	return cuts
}

// T8: a lone client hears the same, however its bytes are cut into pieces on their way.
func TestPieces(t *testing.T) {
	for seed := range uint64(40) {
		r := rand.New(rand.NewPCG(seed, 10))
		c := anyConfig(r)
		var b []byte
		for i := range 12 {
			q := []api.Request{pin(i), stats(i), joining(i, 1+r.IntN(4)), release(i, 1+r.IntN(4)), scan(i, r.IntN(4), 9), get(i, r.IntN(4), cell("k", 0)), multi(i, 0, cell("k", 0))}[r.IntN(7)]
			b = append(b, framed(t, q)...)
		}
		if r.IntN(2) == 0 {
			b = append(b, 0, 0, 0, 1, byte(r.IntN(256)))
		}
		want := rest(t, world.Script{Config: c, Events: []api.Event{open(1), send(1, b...)}})
		for range 4 {
			events := []api.Event{open(1)}
			for left := b; len(left) > 0; {
				n := 1 + r.IntN(min(len(left), 30))
				events = append(events, send(1, left[:n]...), bring(1, r.IntN(40)), pick(r.IntN(9)), pick(r.IntN(9)), fetch(1, r.IntN(40)))
				left = left[n:]
			}
			w := rest(t, world.Script{Config: c, Events: events})
			if len(w.Heard) != 1 || !sameHeard(w.Heard[0], want.Heard[0]) {
				// What is sent behind the end of a broken session is refused; all ahead of that is heard alike.
				t.Fatalf("heard %+v; want %+v", w.Heard, want.Heard)
			}
		}
	}
}

// T10: behind the shutdown all sessions end, and nothing is left to do.
func TestDown(t *testing.T) {
	for seed := range uint64(30) {
		s := mildScript(t, rand.New(rand.NewPCG(seed, 11)), 400)
		s.Events = append(s.Events, stop())
		w := rest(t, s)
		if left := pendingOf(w.Lines); len(left) > 0 {
			t.Errorf("%v are not answered", left)
		}
		told, bad := toldTo(w)
		for i, h := range w.Heard {
			if n := bad[i+1]; n == 1 && (!h.End || h.Rest > 0 || h.Responses[len(told[i+1])-1].Err != api.ErrDown) {
				t.Errorf("connection %d heard %+v", i+1, h)
			}
		}
	}
}

// spare is a list with its spare room.
func spare[T any](l []T) []T { return l[:cap(l)] }

// roomy is a script whose lists have spare room, with something in it.
func roomy(s world.Script) world.Script {
	s.Config.Views = append(slices.Clone(s.Config.Views), api.View{Size: 3}, api.View{Slide: 4})[:len(s.Config.Views)]
	events := append(slices.Clone(s.Events), pick(77), open(9))
	for i, e := range events {
		events[i].Data = append(slices.Clone(e.Data), 1, 2, 3)[:len(e.Data)]
	}
	s.Events = events[:len(s.Events)]
	return s
}

func sameScript(a, b world.Script) bool {
	return slices.Equal(spare(a.Config.Views), spare(b.Config.Views)) && slices.EqualFunc(spare(a.Events), spare(b.Events), func(a, b api.Event) bool {
		return a.Kind == b.Kind && a.A == b.A && a.N == b.N && a.Key == b.Key && a.Time == b.Time && a.Value == b.Value && bytes.Equal(spare(a.Data), spare(b.Data))
	})
}

// P2: what is handed in is not changed, its spare room neither.
func TestHandedInStays(t *testing.T) {
	for seed := range uint64(20) {
		s := roomy(anyScript(t, rand.New(rand.NewPCG(seed, 12)), 300))
		before := deep(s)
		run(t, s)
		rest(t, s)
		world.Bound(s.Config, 1, 2, 3)
		l := []world.Script{s, s, before}
		farm(t, 3, l[:2])
		for _, x := range l {
			if !sameScript(x, before) {
				t.Fatal("what was handed in is changed")
			}
		}
	}
}

// deep is a script like another one, which shares nothing with it, its spare room alike.
func deep(s world.Script) world.Script {
	s.Config.Views = slices.Clip(slices.Clone(spare(s.Config.Views)))[:len(s.Config.Views)]
	n := len(s.Events)
	s.Events = slices.Clip(slices.Clone(spare(s.Events)))
	for i, e := range s.Events {
		s.Events[i].Data = slices.Clip(slices.Clone(spare(e.Data)))[:len(e.Data)]
	}
	s.Events = s.Events[:n]
	return s
}

// P2: what was told is new memory: who writes over it, and over the script, changes nothing of what is told else.
func TestToldIsNew(t *testing.T) {
	for seed := range uint64(20) {
		s := anyScript(t, rand.New(rand.NewPCG(seed, 13)), 300)
		before := deep(s)
		want := print(rest(t, s))
		one := rest(t, s)
		two := farm(t, 2, []world.Script{s, s, s})
		wantLone := print(run(t, s))
		wipe(one)
		wipe(two[1])
		if !sameEvents(s, before) || print(rest(t, s)) != want || print(run(t, s)) != wantLone || print(two[0]) != wantLone || print(two[2]) != wantLone {
			t.Fatal("what was told hangs together")
		}
		kept := rest(t, s)
		for _, e := range s.Events {
			clear(spare(e.Data))
		}
		clear(spare(s.Config.Views))
		clear(spare(s.Events))
		if print(kept) != want {
			t.Fatal("what was told hangs on what was handed in")
		}
	}
}

func sameEvents(a, b world.Script) bool {
	return slices.Equal(a.Config.Views, b.Config.Views) && slices.EqualFunc(a.Events, b.Events, func(a, b api.Event) bool {
		return a.Kind == b.Kind && a.A == b.A && a.N == b.N && a.Key == b.Key && a.Time == b.Time && a.Value == b.Value && bytes.Equal(a.Data, b.Data)
	})
}

// wipe writes over all lists that were told, with their spare room.
func wipe(w world.Told) {
	for _, l := range w.Lines {
		clear(spare(l.Request.Cells))
		clear(spare(l.Response.Rows))
	}
	for _, h := range w.Heard {
		for _, r := range h.Responses {
			clear(spare(r.Rows))
		}
		clear(spare(h.Responses))
	}
	clear(spare(w.Errs))
	clear(spare(w.Lines))
	clear(spare(w.Heard))
	clear(spare(w.Map))
}

// P2: no two lists of one answer share any: each list that is written over leaves all others as they were.
func TestListsAreApart(t *testing.T) {
	tried := 0
	for seed := range uint64(12) {
		s := anyScript(t, rand.New(rand.NewPCG(seed, 14)), 300)
		want := rest(t, s)
		for i, l := range want.Lines {
			if n := len(l.Request.Cells) + len(l.Response.Rows); n > 0 {
				w := rest(t, s)
				clear(spare(w.Lines[i].Request.Cells))
				clear(spare(w.Lines[i].Response.Rows))
				w.Lines[i] = l
				wantTold(t, w, want)
				tried += n
			}
		}
		for c, h := range want.Heard {
			for i, r := range h.Responses {
				w := rest(t, s)
				clear(spare(w.Heard[c].Responses[i].Rows))
				w.Heard[c].Responses[i] = r
				wantTold(t, w, want)
				tried += len(r.Rows)
			}
			w := rest(t, s)
			clear(spare(w.Heard[c].Responses))
			w.Heard[c] = h
			wantTold(t, w, want)
		}
	}
	if tried < 40 {
		t.Errorf("%d: this tests too little", tried)
	}
}

// P2007, T4: what comes ahead of the first frame that is none is answered, in order; then one error is told, and that is all.
func TestAnyBytes(t *testing.T) {
	for seed := range uint64(60) {
		r := rand.New(rand.NewPCG(seed, 15))
		var b []byte
		asked := r.IntN(4)
		for i := range asked {
			b = append(b, framed(t, stats(i))...)
		}
		body := make([]byte, 1+r.IntN(12))
		for i := range body {
			body[i] = byte(r.IntN(256) >> (r.IntN(2) * 5))
		}
		body[0] = 9
		want := api.ErrKind
		switch frame, _ := wire.Frame(body); r.IntN(3) {
		case 0:
			frame[3] = 0
			b, want = append(b, frame...), api.ErrFrame
		case 1:
			frame[2] = 1
			b, want = append(b, frame...), api.ErrFrame
		default:
			b = append(b, frame...)
		}
		w := rest(t, script(open(1), send(1, b...), send(1, framed(t, pin(9))...)))
		h := w.Heard[0]
		if len(h.Responses) != asked+1 || !h.End || h.Rest != 0 {
			t.Fatalf("heard %+v", h)
		}
		for i, x := range h.Responses[:asked] {
			if !codec.SameResponse(x, counts(i, api.Stats{Now: 1})) {
				t.Errorf("heard %+v", h)
			}
		}
		if !codec.SameResponse(h.Responses[asked], bad(0, want)) {
			t.Errorf("heard %+v; want %v", h, want)
		}
		wantMap(t, w)
	}
}
