package world_test

import (
	"math"
	"math/rand/v2"
	"strings"
	"testing"

	"spate/api"
	"spate/serve"
	"spate/world"
)

// anyConfig is a configuration with few of everything.
func anyConfig(r *rand.Rand) api.Config {
	c := api.Config{
		Sources: 1 + r.IntN(3), Operators: 1 + r.IntN(3), Shards: 1 + r.IntN(4),
		Slots: 2 + r.IntN(40), Box: 1 + r.IntN(3), Admit: 1 + r.IntN(3), Pins: 1 + r.IntN(3),
		Chunk: 1 + r.IntN(3), Frame: 16 + r.IntN(100), In: 1 + r.IntN(40), Out: 1 + r.IntN(60),
	}
	for range 1 + r.IntN(3) {
		v := api.View{Slide: 1 + r.Int64N(10), Late: r.Int64N(8) * r.Int64N(2)}
		v.Size = 1 + r.Int64N(3*v.Slide)
		c.Views = append(c.Views, v)
	}
	return c
}

// writer makes scripts such as keep a server at work. It plays them meanwhile, so that it can ask for epochs that are held.
type writer struct {
	r       *rand.Rand
	c       api.Config
	server  *serve.Server
	time    int64
	opened  []int
	pending [api.MaxConns + 1][]byte // requests that are to be sent
	id      int
	mild    bool // all is right, and nobody cuts or stops
}

func newWriter(t *testing.T, r *rand.Rand, c api.Config) *writer {
	t.Helper()
	server, errno := serve.New(c)
	if errno != api.OK {
		t.Fatalf("New: %v", errno)
	}
	return &writer{r: r, c: c, server: server}
}

// anyScript is one of so many events.
func anyScript(t *testing.T, r *rand.Rand, events int) world.Script {
	t.Helper()
	return newWriter(t, r, anyConfig(r)).write(t, events)
}

// mildScript is one by which nobody is broken off.
func mildScript(t *testing.T, r *rand.Rand, events int) world.Script {
	t.Helper()
	c := anyConfig(r)
	c.Frame = 200
	x := newWriter(t, r, c)
	x.mild = true
	return x.write(t, events)
}

func (x *writer) write(t *testing.T, events int) world.Script {
	t.Helper()
	s := world.Script{Config: x.c}
	for range events {
		e := x.next(t)
		if errno := x.server.Do(e); e.Kind == api.EOpen && errno == api.OK {
			x.opened = append(x.opened, e.A)
		}
		s.Events = append(s.Events, e)
	}
	return s
}

// next is any event; most are right ones.
func (x *writer) next(t *testing.T) api.Event {
	switch n := x.r.IntN(100); {
	case n < 12:
		return x.item()
	case n < 15 && len(x.opened) < 5:
		return open(1 + x.r.IntN(8))
	case n < 25 && len(x.opened) > 0:
		return x.send(t)
	case n < 33:
		return bring(x.conn(), x.r.IntN(60))
	case n < 40:
		return fetch(x.conn(), x.r.IntN(80))
	case n == 40 && !x.mild && x.r.IntN(5) == 0:
		return cut(x.conn())
	case n == 41 && !x.mild && x.r.IntN(15) == 0:
		return stop()
	case n == 42 && !x.mild:
		return x.wrong()
	}
	return pick(x.r.IntN(100) - 20)
}

func (x *writer) conn() int {
	if len(x.opened) == 0 {
		return 1
	}
	return x.opened[x.r.IntN(len(x.opened))]
}

// item is what a source gives.
func (x *writer) item() api.Event {
	source := x.r.IntN(x.c.Sources)
	if x.r.IntN(4) == 0 {
		x.time += x.r.Int64N(6)
		return mark(source, x.time-x.r.Int64N(8))
	}
	return feed(source, x.key(), x.time+x.r.Int64N(24)-14, x.value())
}

func (x *writer) key() string { return string(rune('a' + x.r.IntN(5))) }

func (x *writer) value() int64 {
	if x.r.IntN(12) == 0 {
		return []int64{math.MaxInt64, math.MinInt64, math.MaxInt64 / 2}[x.r.IntN(3)]
	}
	return x.r.Int64N(20) - 10
}

// send is a piece of requests.
func (x *writer) send(t *testing.T) api.Event {
	t.Helper()
	c := x.conn()
	if len(x.pending[c]) == 0 {
		for range 1 + x.r.IntN(3) {
			x.pending[c] = append(x.pending[c], framed(t, x.request())...)
		}
		if !x.mild && x.r.IntN(20) == 0 {
			x.pending[c] = append(x.pending[c], 0, 0, 0, byte(x.r.IntN(4)), byte(x.r.IntN(9)), 200, 0)
		}
	}
	n := 1 + x.r.IntN(len(x.pending[c]))
	piece := x.pending[c][:n]
	x.pending[c] = x.pending[c][n:]
	return send(c, piece...)
}

func (x *writer) request() api.Request {
	x.id++
	switch x.r.IntN(9) {
	case 0, 1:
		return get(x.id, x.epoch(), x.anyCell())
	case 2:
		var cells []api.Cell
		for range 1 + x.r.IntN(3) {
			cells = append(cells, x.anyCell())
		}
		return multi(x.id, x.epoch(), cells...)
	case 3, 4:
		q := scan(x.id, x.epoch(), 1+x.r.IntN(8))
		if x.r.IntN(2) == 0 {
			q.From, q.To = x.anyCell(), x.anyCell()
		}
		return q
	case 5:
		return pin(x.id)
	case 6:
		return joining(x.id, max(x.epoch(), 1))
	case 7:
		return release(x.id, max(x.epoch(), 1))
	}
	return stats(x.id)
}

func (x *writer) anyCell() api.Cell {
	view := x.r.IntN(len(x.c.Views))
	slide := x.c.Views[view].Slide
	if x.r.IntN(20) == 0 {
		view = 3
	}
	return api.Cell{View: view, Key: x.key(), Start: (x.time/slide - x.r.Int64N(4)) * slide}
}

// epoch is now (0), or one that is held, if it goes well.
func (x *writer) epoch() int {
	if x.r.IntN(2) == 0 {
		return 0
	}
	now, _, _ := x.server.Book()
	return max(now-x.r.IntN(5), 1)
}

// wrong is an event that may be refused.
func (x *writer) wrong() api.Event {
	return api.Event{
		Kind: x.r.IntN(12) - 1, A: x.r.IntN(70) - 2, N: x.r.IntN(2), Key: strings.Repeat("k", x.r.IntN(2)*x.r.IntN(40)),
		Time: int64(x.r.IntN(2)) << (60 + x.r.IntN(2)), Value: x.r.Int64N(2), Data: make([]byte, x.r.IntN(2)),
	}
}
