package serve_test

import (
	"bytes"
	"math"
	"math/rand/v2"
	"slices"
	"strings"
	"testing"

	"spate/api"
	"spate/serve"
)

// both are a server and its likeness, to which the same is done.
type both struct {
	t    *testing.T
	s    *serve.Server
	p    *plain
	told int // lines that were held against each other
}

func newBoth(t *testing.T, c api.Config) *both {
	t.Helper()
	x := &both{t: t, s: newServer(t, c), p: newPlain(c)}
	x.same()
	return x
}

func (x *both) do(events ...api.Event) api.Errno {
	x.t.Helper()
	var last api.Errno
	for _, e := range events {
		got, want := x.s.Do(e), x.p.do(e)
		if got != want {
			x.t.Fatalf("Do(%.80v): %v; want %v", e, got, want)
		}
		x.same()
		last = got
	}
	return last
}

func (x *both) round() int {
	x.t.Helper()
	got, want := x.s.Round(), x.p.round()
	if got != want {
		x.t.Fatalf("Round: %d; want %d", got, want)
	}
	x.same()
	return got
}

// same holds all that a server tells against the likeness.
func (x *both) same() {
	x.t.Helper()
	if got, want := x.s.States(), x.p.states(); !slices.Equal(got, want) {
		x.t.Fatalf("States: %v; want %v; %s", got, want, x.p.rows())
	}
	if got, want := x.s.Lines(x.told), x.p.lines[x.told:]; !slices.EqualFunc(got, want, sameLine) {
		x.t.Fatalf("Lines(%d):\n%s; want\n%s", x.told, lineTexts(got), lineTexts(want))
	}
	x.told = len(x.p.lines)
	now, held, live := x.s.Book()
	if a, b, c := x.p.book.Now(), len(x.p.book.Held()), x.p.book.Live(); now != a || held != b || live != c {
		x.t.Fatalf("Book: %d, %d, %d; want %d, %d, %d", now, held, live, a, b, c)
	}
	if got, want := x.s.Map(), x.p.store.Scan(0, api.Cell{}, api.Cell{View: 4}, math.MaxInt); !slices.Equal(got, want) {
		x.t.Fatalf("Map: %v; want %v", got, want)
	}
	if got, want := x.s.Most(), x.p.store.Most(); got != want || got > live+2 {
		x.t.Fatalf("Most: %d; want %d; %d are live", got, want, live)
	}
	for i, n := range x.s.Units() {
		if n != x.p.store.Units(i) || n > x.p.c.Slots {
			x.t.Fatalf("Units of %d: %d; want %d, %d at most", i, n, x.p.store.Units(i), x.p.c.Slots)
		}
	}
	if got, want := x.s.Idle(), x.p.idle(); got != want {
		x.t.Fatalf("Idle: %v; want %v", got, want)
	}
	for _, c := range x.p.opened {
		got, end := x.s.Heard(c)
		want, wantEnd := x.p.net.Heard(c)
		if !bytes.Equal(got, want) || end != wantEnd {
			x.t.Fatalf("Heard(%d): %v, %v; want %v, %v", c, got, end, want, wantEnd)
		}
	}
}

// rows tells in which row each task stands.
func (p *plain) rows() string {
	var b strings.Builder
	for _, x := range p.tasks {
		b.WriteByte(x.row)
	}
	return b.String()
}

// settle does rounds till nothing is left to do.
func (x *both) settle() int {
	x.t.Helper()
	for n := range 1 << 11 {
		if x.s.Idle() {
			return n
		}
		x.round()
	}
	x.t.Fatalf("it does not come to rest: %v, %s", x.s.States(), x.p.rows())
	return 0
}

// anyConfig is a configuration with few of everything.
func anyConfig(r *rand.Rand) api.Config {
	c := api.Config{
		Sources: 1 + r.IntN(3), Operators: 1 + r.IntN(3), Shards: 1 + r.IntN(4),
		Slots: 2 + r.IntN(40), Box: 1 + r.IntN(3), Admit: 1 + r.IntN(3), Pins: 1 + r.IntN(3),
		Chunk: 1 + r.IntN(3), Frame: 16 + r.IntN(100), In: 1 + r.IntN(40), Out: 1 + r.IntN(60),
	}
	for range 1 + r.IntN(3) {
		v := api.View{Slide: 1 + r.Int64N(10), Late: r.Int64N(8) * r.Int64N(2)}
		v.Size = 1 + r.Int64N(3*v.Slide)
		c.Views = append(c.Views, v)
	}
	return c
}

// mildConfig is one, and its script, by which nobody is broken off.
func mildConfig(r *rand.Rand) (api.Config, *script) {
	c := anyConfig(r)
	c.Frame = 200
	x := newScript(r, c)
	x.mild = true
	return c, x
}

// script makes events, one after the other, such as keep a server at work.
type script struct {
	r       *rand.Rand
	c       api.Config
	time    int64
	opened  int
	pending [api.MaxConns + 1][]byte     // requests that are to be sent
	book    func() (now, held, live int) // that of the server that plays it, if epochs are to be such as are held
	id      int
	mild    bool // all is right, and nobody cuts or stops
}

func newScript(r *rand.Rand, c api.Config) *script {
	return &script{r: r, c: c}
}

func (x *script) key() string { return string(rune('a' + x.r.IntN(5))) }

func (x *script) anyCell() api.Cell {
	view := x.r.IntN(len(x.c.Views))
	if x.r.IntN(20) == 0 {
		view = 3
	}
	slide := int64(5)
	if view < len(x.c.Views) {
		slide = x.c.Views[view].Slide
	}
	return api.Cell{View: view, Key: x.key(), Start: (x.time/slide - x.r.Int64N(4)) * slide}
}

func (x *script) epoch() int {
	if x.r.IntN(2) == 0 {
		return 0
	}
	now := 3
	if x.book != nil {
		now, _, _ = x.book()
	}
	return max(now-x.r.IntN(5), 1)
}

func (x *script) request() api.Request {
	x.id++
	switch x.r.IntN(9) {
	case 0, 1:
		return get(x.id, x.epoch(), x.anyCell())
	case 2:
		var cells []api.Cell
		for range 1 + x.r.IntN(3) {
			cells = append(cells, x.anyCell())
		}
		return multi(x.id, x.epoch(), cells...)
	case 3, 4:
		q := scan(x.id, x.epoch(), 1+x.r.IntN(8))
		if x.r.IntN(2) == 0 {
			q.From, q.To = x.anyCell(), x.anyCell()
		}
		return q
	case 5:
		return pin(x.id)
	case 6:
		return join(x.id, max(x.epoch(), 1))
	case 7:
		return release(x.id, max(x.epoch(), 1))
	}
	return stats(x.id)
}

func (x *script) conn() int { return 1 + x.r.IntN(max(x.opened, 1)) }

func (x *script) send(t *testing.T) api.Event {
	c := x.conn()
	if len(x.pending[c]) == 0 {
		for range 1 + x.r.IntN(3) {
			x.pending[c] = append(x.pending[c], framed(t, x.request())...)
		}
		if !x.mild && x.r.IntN(20) == 0 {
			x.pending[c] = append(x.pending[c], 0, 0, 0, byte(x.r.IntN(4)), byte(x.r.IntN(9)), 200, 0)
		}
	}
	n := 1 + x.r.IntN(len(x.pending[c]))
	piece := x.pending[c][:n]
	x.pending[c] = x.pending[c][n:]
	return send(c, piece)
}

func (x *script) value() int64 {
	if x.r.IntN(12) == 0 {
		return []int64{math.MaxInt64, math.MinInt64, math.MaxInt64 / 2}[x.r.IntN(3)]
	}
	return x.r.Int64N(20) - 10
}

// items are what sources give.
func (x *script) item() api.Event {
	source := x.r.IntN(x.c.Sources)
	if x.r.IntN(4) == 0 {
		x.time += x.r.Int64N(6)
		return mark(source, x.time-x.r.Int64N(8))
	}
	return feed(source, x.key(), x.time+x.r.Int64N(24)-14, x.value())
}

// next is any event; most are right ones.
func (x *script) next(t *testing.T) api.Event {
	switch n := x.r.IntN(100); {
	case n < 12:
		return x.item()
	case n < 15 && x.opened < 5:
		x.opened++
		return open(x.opened)
	case n < 25 && x.opened > 0:
		return x.send(t)
	case n < 33:
		return bring(x.conn(), x.r.IntN(60))
	case n < 40:
		return fetch(x.conn(), x.r.IntN(80))
	case n == 40 && !x.mild && x.r.IntN(5) == 0:
		return cut(x.conn())
	case n == 41 && !x.mild && x.r.IntN(15) == 0:
		return stop()
	case n == 42 && !x.mild:
		return x.wrong()
	}
	return pick(x.r.IntN(100) - 20)
}

// wrong is an event that may be refused.
func (x *script) wrong() api.Event {
	return api.Event{
		Kind: x.r.IntN(12) - 1, A: x.r.IntN(70) - 2, N: x.r.IntN(2), Key: strings.Repeat("k", x.r.IntN(2)*x.r.IntN(40)),
		Time: int64(x.r.IntN(2)) << (60 + x.r.IntN(2)), Value: x.r.Int64N(2), Data: make([]byte, x.r.IntN(2)),
	}
}
