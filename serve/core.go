package serve

import (
	"spate/api"
	"spate/epoch"
	"spate/flow"
	"spate/net"
	"spate/store"
)

// The locks by their numbers; that of shard s is firstShard + s.
const (
	gate       = 0
	book       = 1
	firstShard = 2
)

// The conditions by their numbers; that of a source, a box, a connection is so many behind the first one of its kind.
const (
	reclaimerAt = iota * 100
	sourceAt
	takerAt // of a box, who takes out of it
	giverAt // of a box, those who lay into it
	connAt
)

// core is what all tasks share.
type core struct {
	history
	flow  *flow.Flow
	store *store.Store
	book  *epoch.Book
	net   *net.Net

	// As the configuration has them.
	shards, admit, chunk, frame int

	stopping bool
	debt     bool  // something is to be swept
	doing    int   // how many requests are being done
	woken    []int // the conditions that are woken with the move of this step
}

// newCore makes what the tasks share; of a right configuration all of it can be made.
func newCore(c api.Config) *core {
	shared := &core{shards: c.Shards, admit: c.Admit, chunk: c.Chunk, frame: c.Frame}
	shared.flow, _ = flow.New(c.Sources, c.Operators, c.Box)
	shared.store, _ = store.New(c.Shards, c.Slots)
	shared.book, _ = epoch.New(c.Pins)
	shared.net, _ = net.New(c.In, c.Out)
	return shared
}

func emptyCore() *core {
	return &core{flow: &flow.Flow{}, store: &store.Store{}, book: &epoch.Book{}, net: &net.Net{}, stopping: true}
}

// wake is for tasks: a step does not call its own sched.
func (c *core) wake(on int) {
	c.woken = append(c.woken, on)
}

// takeWoken tells what this step woke; the next one begins with nothing.
func (c *core) takeWoken() []int {
	woken := c.woken
	c.woken = nil
	return woken
}

// owe turns the reclaimer's debt on.
func (c *core) owe() {
	c.debt = true
	c.wake(reclaimerAt)
}

// ofShard tells the lock of the shard whose own a key is, not shared.
func (c *core) ofShard(key string) api.Lock {
	return api.Lock{N: firstShard + c.store.Route(key)}
}

// history is what was told, and how many events came to each fate.
type history struct {
	lines []api.Line
	fates [api.FFull + 1]int
}

func (h *history) tell(l api.Line) {
	h.lines = append(h.lines, l)
	if l.Kind == api.HEvent {
		h.fates[l.Fate]++
	}
}
