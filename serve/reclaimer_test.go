package serve_test

import (
	"testing"

	"spate/api"
)

// Rows D, P, Q, E: a step each, shard by shard.
func TestSweep(t *testing.T) {
	s := resting(t, with(func(c *api.Config) { c.Shards, c.Slots = 3, 20 }))
	// Of three shards that of c is 0, of a 1, of g 2.
	do(t, s, feed(0, "a", 5, 1), feed(0, "c", 5, 1), feed(0, "g", 5, 1))
	settle(t, s)
	wantUnits(t, s, 1, 2, 2, 2)
	do(t, s, mark(0, 10))
	step(t, s, 0, 2)
	step(t, s, 1, 8)
	wantStates(t, s, 3, 3, 1)
	wantUnits(t, s, 1, 1, 1, 1)
	step(t, s, 2, 2) // D, P
	wantUnits(t, s, 1, 1, 1, 1)
	step(t, s, 2, 1)
	wantUnits(t, s, 1, 0, 1, 1)
	step(t, s, 2, 1)
	wantUnits(t, s, 1, 0, 1, 1)
	step(t, s, 2, 1)
	wantUnits(t, s, 1, 0, 0, 1)
	step(t, s, 2, 2)
	wantUnits(t, s, 0, 0, 0, 0)
	step(t, s, 2, 1) // E
	wantStates(t, s, 3, 3, 1)
	step(t, s, 2, 1)
	wantStates(t, s, 3, 3, 3)
}

// Rows D, E: what dies while a sweep goes on dies with the next one; no epoch is no more before its sweep has ended.
func TestDebtWhileSweeping(t *testing.T) {
	s := resting(t, small(), 1)
	ask(t, s, 1, pin(0), pin(0))
	settle(t, s)
	wantBook(t, s, 3, 2, 2)
	ask(t, s, 1, release(0, 1), release(0, 2))
	step(t, s, 3, 2) // I, A
	wantStates(t, s, 3, 3, 3, 1)
	step(t, s, 3, 1) // B
	wantStates(t, s, 3, 3, 1, 1)
	wantBook(t, s, 3, 1, 2)
	step(t, s, 2, 1) // D: the sweep has begun, and ends epoch 1
	step(t, s, 3, 4) // X, I, A, B
	wantBook(t, s, 3, 0, 2)
	step(t, s, 2, 2) // P, Q
	wantBook(t, s, 3, 0, 2)
	step(t, s, 2, 1) // E
	wantBook(t, s, 3, 0, 1)
	step(t, s, 2, 3) // D, P, Q
	wantBook(t, s, 3, 0, 1)
	step(t, s, 2, 1)
	wantBook(t, s, 3, 0, 0)
	step(t, s, 2, 1)
	wantStates(t, s, 3, 3, 3, 1)
}

// Row Q: what the book tells as held when the shard is swept is kept, not what it told when the sweep began.
func TestHeldStays(t *testing.T) {
	s := resting(t, with(func(c *api.Config) { c.Pins = 3 }), 1)
	do(t, s, feed(0, "a", 5, 1))
	settle(t, s)
	ask(t, s, 1, pin(0))
	settle(t, s)
	do(t, s, feed(0, "a", 5, 2))
	settle(t, s)
	ask(t, s, 1, pin(0), pin(0))
	settle(t, s)
	do(t, s, feed(0, "a", 5, 4))
	settle(t, s)
	wantUnits(t, s, 3, 4) // at epochs 1, 2 and 4, and the cell
	ask(t, s, 1, release(0, 3))
	settle(t, s)
	wantUnits(t, s, 3, 4)
	ask(t, s, 1, release(0, 1), get(7, 2, cell("a", 0)))
	settle(t, s)
	wantUnits(t, s, 2, 3)
	ask(t, s, 1, release(0, 2))
	step(t, s, 3, 3)
	step(t, s, 2, 1)
	wantUnits(t, s, 2, 3)
	settle(t, s)
	wantUnits(t, s, 1, 2)
	wantMap(t, s, row("a", 0, 1, 2, 4))
	if l := responses(t, s, 1); l[5].Id != 7 || l[5].Rows[0] != row("a", 0, 1, 2) {
		t.Errorf("%+v", l)
	}
}

// Row P: a sweep waits for the book and its shard, and is waited for.
func TestLocksOfSweep(t *testing.T) {
	s := resting(t, with(func(c *api.Config) { c.Shards, c.Slots = 2, 20 }), 1, 2)
	do(t, s, feed(0, "a", 5, 1), mark(0, 10))
	settle(t, s)
	do(t, s, feed(0, "a", 15, 1), mark(0, 20))
	step(t, s, 0, 3)
	step(t, s, 1, 7)
	wantStates(t, s, 3, 3, 1, 3, 3)
	step(t, s, 2, 2) // it has the book and shard 0, which is that of a
	ask(t, s, 1, get(0, 0, cell("a", 0)))
	ask(t, s, 2, pin(0))
	do(t, s, feed(0, "b", 25, 1))
	step(t, s, 0, 1)
	step(t, s, 1, 3)
	wantMap(t, s, row("b", 20, 1))
	step(t, s, 3, 2)
	step(t, s, 4, 2)
	wantStates(t, s, 1, 1, 1, 2, 2)
	step(t, s, 2, 1)
	wantStates(t, s, 1, 1, 1, 1, 1)
	step(t, s, 2, 1)
	wantStates(t, s, 1, 1, 2, 1, 1)
	step(t, s, 4, 1)
	wantStates(t, s, 1, 1, 1, 1, 1)
}

// Row D: a debt that is on twice is paid once.
func TestOneSweepForAll(t *testing.T) {
	s := resting(t, with(func(c *api.Config) { c.Slots = 40 }))
	for _, key := range []string{"a", "b", "c", "d"} {
		do(t, s, feed(0, key, 5, 1))
	}
	settle(t, s)
	do(t, s, mark(0, 10))
	step(t, s, 0, 2)
	step(t, s, 1, 10)
	wantUnits(t, s, 1, 4)
	step(t, s, 2, 5)
	wantUnits(t, s, 0, 0)
	wantStates(t, s, 3, 3, 3)
}
