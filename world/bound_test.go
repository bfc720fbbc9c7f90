package world_test

import (
	"math"
	"math/big"
	"math/rand/v2"
	"testing"

	"spate/api"
	"spate/world"
)

func wantBound(t *testing.T, c api.Config, tasks, bytes, cells, want int) {
	t.Helper()
	if n := world.Bound(c, tasks, bytes, cells); n != want {
		t.Errorf("Bound(%+v, %d, %d, %d): %d; want %d", c, tasks, bytes, cells, n, want)
	}
}

// P2003: the chapter's example 4, and what each of the numbers does.
func TestBound(t *testing.T) {
	c := small()
	wantBound(t, c, 3, 50, 4, 25240)
	wantBound(t, c, 0, 0, 0, 40+8*2*10*9)
	wantBound(t, c, 1, 0, 0, 40+8*3*10*9)
	wantBound(t, c, 0, 1, 0, 40+8*2*10*10)
	wantBound(t, c, 0, 0, 1, 40+8*2*10*10)
	c.Shards = 16
	wantBound(t, c, 0, 0, 0, 40+8*2*10*24)
	// What else is in a configuration does not count.
	c.Sources, c.Operators, c.Slots, c.Box, c.Admit, c.Pins, c.Chunk, c.Frame, c.In, c.Out = 8, 8, 999, 9, 9, 9, 9, 999, 9, 9
	c.Views[0].Late = 1000
	wantBound(t, c, 0, 0, 0, 40+8*2*10*24)
}

// P2003: of each view Size / Slide, rounded up.
func TestBoundOfViews(t *testing.T) {
	for _, x := range []struct {
		views []api.View
		p     int
	}{
		{[]api.View{{Size: 1, Slide: 1}}, 1},
		{[]api.View{{Size: 1, Slide: 9}}, 1},
		{[]api.View{{Size: 9, Slide: 10}}, 1},
		{[]api.View{{Size: 10, Slide: 10}}, 1},
		{[]api.View{{Size: 11, Slide: 10}}, 2},
		{[]api.View{{Size: 20, Slide: 10}}, 2},
		{[]api.View{{Size: 21, Slide: 10, Late: 7}}, 3},
		{[]api.View{{Size: 64, Slide: 1}}, 64},
		{[]api.View{{Size: 1 << 40, Slide: 1 << 34}}, 64},
		{[]api.View{{Size: 1 << 40, Slide: 1<<34 + 1}}, 64},
		{[]api.View{{Size: 1, Slide: 1 << 40}}, 1},
		{[]api.View{{Size: 1 << 40, Slide: 1 << 40}}, 1},
		{[]api.View{{Size: 3, Slide: 2}, {Size: 5, Slide: 2}}, 5},
		{[]api.View{{Size: 64, Slide: 1}, {Size: 64, Slide: 1}, {Size: 127, Slide: 2}, {Size: 64, Slide: 1}}, 256},
	} {
		wantBound(t, with(func(c *api.Config) { c.Views = x.views }), 1, 2, 3, 40+8*3*(2*x.p+8)*(2+3+1+8))
	}
}

// P2003: -1, where a number or the configuration is not right; at the most that may be no int64 wraps.
func TestBoundAtTheEdges(t *testing.T) {
	c := small()
	const most = 1 << 20
	for _, n := range []int{-1, math.MinInt, most + 1, math.MaxInt} {
		wantBound(t, c, n, 0, 0, -1)
		wantBound(t, c, 0, n, 0, -1)
		wantBound(t, c, 0, 0, n, -1)
		wantBound(t, c, n, n, n, -1)
	}
	wantBound(t, c, most, 0, 0, 40+8*(most+2)*10*9)
	wantBound(t, c, 0, most, 0, 40+8*2*10*(most+9))
	wantBound(t, c, 0, 0, most, 40+8*2*10*(most+9))
	view := api.View{Size: 1 << 40, Slide: 1 << 34}
	c.Views, c.Shards = []api.View{view, view, view, view}, 16
	wantBound(t, c, most, most, most, bigBound(256, 16, most, most, most))
	for _, x := range wrongConfigs() {
		wantBound(t, x.c, 1, 1, 1, -1)
	}
}

// bigBound is T5's number, by big numbers.
func bigBound(windows, shards, tasks, bytes, cells int) int {
	of := func(n int) *big.Int { return big.NewInt(int64(n)) }
	n := of(tasks + 2)
	n.Mul(n, of(2*windows+8))
	n.Mul(n, of(bytes+cells+shards+8))
	n.Add(n.Mul(n, of(8)), of(40))
	if !n.IsInt64() {
		return -2
	}
	return int(n.Int64())
}

// P2003: whatever configuration it is, the number is that of big numbers.
func TestAnyBound(t *testing.T) {
	r := rand.New(rand.NewPCG(1, 3))
	for range 500 {
		c := anyConfig(r)
		windows := 0
		for _, v := range c.Views {
			for start := int64(0); start < v.Size; start += v.Slide {
				windows++
			}
		}
		tasks, bytes, cells := r.IntN(1<<20+1), r.IntN(1<<20+1), r.IntN(1<<20+1)
		wantBound(t, c, tasks, bytes, cells, bigBound(windows, c.Shards, tasks, bytes, cells))
	}
}

// P2003, T5: whatever was begun is answered within the bound.
func TestAnswersInTime(t *testing.T) {
	begun := 0
	for seed := range uint64(60) {
		s := mildScript(t, rand.New(rand.NewPCG(seed, 4)), 500)
		w := run(t, s)
		begun += len(pendingOf(w.Lines))
		most := world.Bound(s.Config, s.Config.Sources+s.Config.Operators+1+len(w.Heard), 0, len(w.Map))
		if left := pendingOf(settle(t, s, most).Lines); len(left) > 0 {
			t.Errorf("%v are not answered in %d rounds", left, most)
		}
	}
	if begun < 60 {
		t.Errorf("%d were begun: this tests too little", begun)
	}
}

// pendingOf are the requests that were begun and not answered.
func pendingOf(lines []api.Line) map[[2]int]bool {
	pending := map[[2]int]bool{}
	for _, l := range lines {
		switch l.Kind {
		case api.HAsk:
			pending[[2]int{l.Who, l.No}] = true
		case api.HAnswer:
			delete(pending, [2]int{l.Who, l.No})
		}
	}
	return pending
}
