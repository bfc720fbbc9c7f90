package serve_test

import (
	"math"
	"testing"

	"spate/api"
	"spate/serve"
)

func wantCheck(t *testing.T, c api.Config, want api.Errno) {
	t.Helper()
	if errno := serve.Check(c); errno != want {
		t.Errorf("Check(%+v): %v; want %v", c, errno, want)
	}
	s, errno := serve.New(c)
	if errno != want || (s != nil) != (want == api.OK) {
		t.Errorf("New(%+v): %v, %v; want %v", c, s, errno, want)
	}
}

// P1801: each number of a configuration at its bounds, and one beyond.
func TestBounds(t *testing.T) {
	for _, b := range []struct {
		least, most int
		of          func(*api.Config) *int
	}{
		{1, 8, func(c *api.Config) *int { return &c.Sources }},
		{1, 8, func(c *api.Config) *int { return &c.Operators }},
		{1, 16, func(c *api.Config) *int { return &c.Shards }},
		{2, 1 << 20, func(c *api.Config) *int { return &c.Slots }},
		{1, 64, func(c *api.Config) *int { return &c.Box }},
		{1, 64, func(c *api.Config) *int { return &c.Admit }},
		{1, 64, func(c *api.Config) *int { return &c.Pins }},
		{1, 64, func(c *api.Config) *int { return &c.Chunk }},
		{16, 1 << 16, func(c *api.Config) *int { return &c.Frame }},
		{1, 1 << 17, func(c *api.Config) *int { return &c.In }},
		{1, 1 << 17, func(c *api.Config) *int { return &c.Out }},
	} {
		for n, want := range map[int]api.Errno{
			b.least: api.OK, b.most: api.OK, b.least - 1: api.ErrConfig, b.most + 1: api.ErrConfig,
			-b.least: api.ErrConfig, math.MinInt: api.ErrConfig, math.MaxInt: api.ErrConfig,
		} {
			c := small()
			*b.of(&c) = n
			wantCheck(t, c, want)
		}
	}
	wantCheck(t, api.Config{}, api.ErrConfig)
}

// P1801: how many views there are, and which are right; ErrView is ahead of ErrConfig.
func TestViews(t *testing.T) {
	right, wrong := api.View{Size: 64, Slide: 1, Late: api.MaxSpan}, api.View{Size: 65, Slide: 1}
	for _, c := range []struct {
		views []api.View
		want  api.Errno
	}{
		{nil, api.ErrConfig},
		{[]api.View{}, api.ErrConfig},
		{[]api.View{right}, api.OK},
		{[]api.View{right, right, right, right}, api.OK},
		{[]api.View{right, right, right, right, right}, api.ErrConfig},
		{[]api.View{wrong}, api.ErrView},
		{[]api.View{right, right, right, wrong}, api.ErrView},
		{[]api.View{right, right, right, right, wrong}, api.ErrView},
		{[]api.View{right, {}}, api.ErrView},
		{[]api.View{{Size: 1, Slide: api.MaxSpan + 1}}, api.ErrView},
		{[]api.View{{Size: 1, Slide: 1, Late: -1}}, api.ErrView},
	} {
		wantCheck(t, with(func(x *api.Config) { x.Views = c.views }), c.want)
		both := c.want
		if both == api.OK {
			both = api.ErrConfig
		}
		wantCheck(t, with(func(x *api.Config) { x.Views, x.Sources = c.views, 0 }), both)
		wantCheck(t, with(func(x *api.Config) { x.Views, x.Out = c.views, -1 }), both)
	}
}

// P1801: a new server.
func TestNew(t *testing.T) {
	for _, n := range []int{1, 3, 8} {
		s := newServer(t, with(func(c *api.Config) { c.Sources, c.Operators, c.Shards = n, 9-n, n }))
		wantStates(t, s, 1, 1, 1, 1, 1, 1, 1, 1, 1, 1)
		wantMap(t, s)
		wantBook(t, s, 1, 0, 0)
		wantUnits(t, s, 0, make([]int, n)...)
		wantLines(t, s, 0)
		for c := 1; c <= api.MaxConns; c++ {
			b, end := s.Heard(c)
			wantBytes(t, b, nil)
			if end {
				t.Errorf("connection %d is at its end", c)
			}
		}
		wantIdle(t, s, false)
		wantRound(t, s, 10)
		wantStates(t, s, 3, 3, 3, 3, 3, 3, 3, 3, 3, 3)
		wantIdle(t, s, true)
		wantRound(t, s, 0)
	}
}

// P1801: the numbers of tasks: sources, operators, the reclaimer, and connections in the order in which they were opened.
func TestNumbersOfTasks(t *testing.T) {
	s := newServer(t, with(func(c *api.Config) { c.Sources, c.Operators, c.Box = 2, 3, 1 }))
	s.Round()
	do(t, s, open(9), open(2))
	wantStates(t, s, 3, 3, 3, 3, 3, 3, 1, 1)
	s.Round()
	do(t, s, feed(1, "a", 1, 1))
	wantStates(t, s, 3, 1, 3, 3, 3, 3, 3, 3)
	do(t, s, pick(0), pick(0))
	taker := 2 + operatorOf("a", 3)
	want := []int{3, 3, 3, 3, 3, 3, 3, 3}
	want[taker] = 1
	wantStates(t, s, want...)
	do(t, s, send(2, []byte{0}), bring(2, 1))
	want[7] = 1
	wantStates(t, s, want...)
	do(t, s, send(9, []byte{0}), bring(9, 1))
	want[6] = 1
	wantStates(t, s, want...)
}

// P1801, P2: what a configuration has may change behind New.
func TestConfigIsNotKept(t *testing.T) {
	views := append(make([]api.View, 0, 4), api.View{Size: 10, Slide: 10})
	c := with(func(c *api.Config) { c.Views = views })
	s := newServer(t, c)
	views[0] = api.View{Size: 1, Slide: 7}
	clear(views[:4])
	do(t, s, feed(0, "a", 15, 1))
	settle(t, s)
	wantMap(t, s, row("a", 10, 1))
	serve.Check(c)
	if views[0] != (api.View{}) || len(views) != 1 {
		t.Errorf("the views are now %v", views)
	}
}
