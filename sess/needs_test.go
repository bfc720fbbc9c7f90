package sess_test

import (
	"math"
	"math/rand/v2"
	"slices"
	"testing"

	"spate/api"
)

func wantNeeds(t *testing.T, q api.Request, route []int, want string) {
	t.Helper()
	if got := text(newSess(t, 16).Needs(q, route)); got != want {
		t.Errorf("Needs(%+v, %v): %s; want %s", q, route, got, want)
	}
}

func cells(n int) []api.Cell { return make([]api.Cell, n) }

// P1705: the chapter's third example.
func TestThirdExample(t *testing.T) {
	wantNeeds(t, api.Request{Kind: api.RMulti, Cells: cells(3)}, []int{3, 0, 3}, "2 5")
	wantNeeds(t, api.Request{Kind: api.RPin}, nil, "0! 1!")
}

// P1705: the table, row by row; route bears on cells alone.
func TestNeedsOfKinds(t *testing.T) {
	for _, route := range [][]int{nil, {}, {7}, {7, 9, -1}} {
		wantNeeds(t, api.Request{Kind: api.RScan}, route, "0! 1!")
		wantNeeds(t, api.Request{Kind: api.RScan, Cells: cells(2), Limit: 9}, route, "0! 1!")
		for _, epoch := range []int{1, 2, api.MaxEpoch, -1, math.MinInt, math.MaxInt} {
			wantNeeds(t, api.Request{Kind: api.RScan, Epoch: epoch}, route, "2")
			wantNeeds(t, api.Request{Kind: api.RPin, Epoch: epoch}, route, "0! 1!")
			wantNeeds(t, api.Request{Kind: api.RJoin, Epoch: epoch}, route, "1!")
			wantNeeds(t, api.Request{Kind: api.RRelease, Epoch: epoch}, route, "1!")
			wantNeeds(t, api.Request{Kind: api.RStats, Epoch: epoch}, route, "0!")
		}
		wantNeeds(t, api.Request{Kind: api.RPin}, route, "0! 1!")
		wantNeeds(t, api.Request{Kind: api.RJoin}, route, "1!")
		wantNeeds(t, api.Request{Kind: api.RRelease}, route, "1!")
		wantNeeds(t, api.Request{Kind: api.RStats}, route, "0!")
		for _, kind := range []int{0, 8, 9, -1, -4, 256 + 4, 1<<32 + 4, math.MinInt, math.MaxInt} {
			wantNeeds(t, api.Request{Kind: kind}, route, "")
			wantNeeds(t, api.Request{Kind: kind, Epoch: 1, Cells: cells(3)}, route, "")
		}
	}
}

// P1705: of Get and Multi, whatever the epoch: each shard once; 0 for a cell that route does not tell, and for numbers below 0; nothing for what route tells beyond the cells.
func TestNeedsOfCells(t *testing.T) {
	for _, kind := range []int{api.RGet, api.RMulti} {
		for _, epoch := range []int{0, 1, api.MaxEpoch, -1} {
			for _, c := range []struct {
				cells int
				route []int
				want  string
			}{
				{0, nil, ""},
				{0, []int{4}, ""},
				{1, nil, "2"},
				{1, []int{}, "2"},
				{1, []int{0}, "2"},
				{1, []int{4}, "6"},
				{1, []int{15}, "17"},
				{1, []int{4, 5, 6}, "6"},
				{1, []int{-4}, "2"},
				{1, []int{math.MinInt}, "2"},
				{1, []int{1 << 40}, "1099511627778"},
				{2, []int{4}, "2 6"},
				{2, []int{4, 4}, "6"},
				{2, []int{4, 3}, "5 6"},
				{2, []int{4, -1}, "2 6"},
				{3, []int{-1, 0}, "2"},
				{3, []int{9, 2, 9}, "4 11"},
				{3, []int{2, 9, 9}, "4 11"},
				{4, []int{3, 0, 3}, "2 5"},
				{16, []int{15, 14, 13, 12, 11, 10, 9, 8, 7, 6, 5, 4, 3, 2, 1, 0}, "2 3 4 5 6 7 8 9 10 11 12 13 14 15 16 17"},
				{16, []int{1, 1, 1, 1, 1, 1, 1, 1, 1, 1, 1, 1, 1, 1, 1, 1}, "3"},
				{17, []int{1, 1, 1, 1, 1, 1, 1, 1, 1, 1, 1, 1, 1, 1, 1, 1}, "2 3"},
			} {
				wantNeeds(t, api.Request{Kind: kind, Epoch: epoch, Cells: cells(c.cells)}, c.route, c.want)
			}
		}
	}
}

// P1705: by chance, against a likeness that goes through all shards.
func TestNeedsOfAnyCells(t *testing.T) {
	r := rand.New(rand.NewPCG(1, 1))
	for range 20000 {
		q := api.Request{Kind: 1 + r.IntN(2), Epoch: r.IntN(3), Cells: cells(r.IntN(18))}
		route := make([]int, r.IntN(20))
		for i := range route {
			route[i] = r.IntN(20) - 3
		}
		var want []api.Lock
		for shard := range 17 {
			for i := range q.Cells {
				if i < len(route) && max(0, route[i]) == shard || i >= len(route) && shard == 0 {
					want = append(want, api.Lock{N: 2 + shard, Shared: true})
					break
				}
			}
		}
		if got := newSess(t, 16).Needs(q, route); !slices.Equal(got, want) {
			t.Fatalf("%d cells, %v: %v; want %v", len(q.Cells), route, got, want)
		}
	}
}

// P1705: a session that asks, and one that is broken, tell the same.
func TestNeedsHangsOnNothingElse(t *testing.T) {
	s := newSess(t, 16)
	q := api.Request{Kind: api.RMulti, Cells: cells(2)}
	want := func() {
		t.Helper()
		if got := text(s.Needs(q, []int{4})); got != "2 6" {
			t.Errorf("Needs: %s", got)
		}
	}
	want()
	s.Feed(asked(t, api.Request{Kind: api.RPin}))
	want()
	s.Next()
	want()
	s.Feed(headOf(0))
	s.Next()
	want()
	wantAsked(t, s, 1)
}

// P1: route's numbers above 1 << 40, and many cells.
func TestNeedsOfWildRoutes(t *testing.T) {
	s := newSess(t, 16)
	wild := []int{1<<40 + 1, math.MaxInt, math.MaxInt - 1, math.MaxInt - 2, math.MinInt, -1, 5, 0}
	kept := slices.Clone(wild)
	for kind := -1; kind <= 9; kind++ {
		s.Needs(api.Request{Kind: kind, Cells: cells(9)}, wild)
	}
	if !slices.Equal(wild, kept) {
		t.Errorf("%v was changed to %v", kept, wild)
	}
	route := make([]int, 1<<18)
	for i := range route {
		route[i] = len(route) - i
	}
	if got := s.Needs(api.Request{Kind: api.RMulti, Cells: cells(1<<18 + 5)}, route); len(got) != 1<<18+1 {
		t.Errorf("%d locks", len(got))
	}
}

// P2: the cells and the route are not changed, their spare room neither, and not kept; the locks are new memory.
func TestNeedsIsApart(t *testing.T) {
	s := newSess(t, 16)
	room := []api.Cell{{Key: "c"}, {Key: "b"}, {Key: "a"}, {Key: "spare"}}
	keptRoom := slices.Clone(room)
	route := []int{5, -3, 1, 1, 99}
	keptRoute := slices.Clone(route)
	q := api.Request{Kind: api.RMulti, Cells: room[:3]}
	first, second := s.Needs(q, route[:4]), s.Needs(q, route[:4])
	if !slices.Equal(room, keptRoom) || !slices.Equal(route, keptRoute) {
		t.Errorf("%v, %v", room, route)
	}
	clear(route)
	clear(room)
	first = first[:cap(first)]
	for i := range first {
		first[i] = api.Lock{N: 77}
	}
	if text(second) != "2 3 7" {
		t.Errorf("%v", second)
	}
	for _, kind := range []int{api.RScan, api.RPin, api.RJoin, api.RStats} {
		q := api.Request{Kind: kind}
		was := text(s.Needs(q, nil))
		first := s.Needs(q, nil)
		first = first[:cap(first)]
		for i := range first {
			first[i] = api.Lock{N: 77}
		}
		if got := text(s.Needs(q, nil)); got != was {
			t.Errorf("kind %d: %s; was %s", kind, got, was)
		}
	}
}
