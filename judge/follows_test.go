package judge_test

import (
	"errors"
	"maps"
	"math/rand/v2"
	"slices"
	"testing"

	"spate/api"
	"spate/judge"
)

// P2105, T1, T9: the history of every script is legal, and linear; so is each front of it.
func TestScriptsAreLegal(t *testing.T) {
	tried, requests := 0, 0
	for seed := range uint64(120) {
		r := rand.New(rand.NewPCG(seed, 1))
		c := anyConfig(r)
		s := anyScript(t, r, c, 100+r.IntN(400), 12)
		l := ran(t, s, seed%2 == 0).Lines
		for n := 0; n <= len(l); n += 1 + r.IntN(4) {
			legal(t, c, l[:n]...)
			linear(t, c, l[:n])
			tried++
		}
		legal(t, c, l...)
		linear(t, c, l)
		for _, x := range l {
			if x.Kind == api.HAnswer {
				requests++
			}
		}
	}
	if tried < 1500 || requests < 500 {
		t.Errorf("%d histories, %d answers: this tests too little", tried, requests)
	}
}

// P2105: likewise of histories that are made up, in which more is done at once.
func TestLegalIsLinear(t *testing.T) {
	for seed := range uint64(250) {
		r := rand.New(rand.NewPCG(seed, 2))
		c := anyConfig(r)
		l := anyHistory(t, r, c, 30+r.IntN(120), 1+r.IntN(8), 12)
		for n := 0; n <= len(l); n += 1 + r.IntN(9) {
			legal(t, c, l[:n]...)
			linear(t, c, l[:n])
		}
		legal(t, c, l...)
		linear(t, c, l)
	}
}

// P2101 to P2104: each call tells what the chapter says word for word, of histories that are legal and of such as are marred.
func TestPlain(t *testing.T) {
	told := map[string]int{}
	for seed := range uint64(600) {
		r := rand.New(rand.NewPCG(seed, 3))
		c := anyConfig(r)
		l := anyHistory(t, r, c, 10+r.IntN(40), 1+r.IntN(4), 1+r.IntN(4))
		for range 10 {
			for what := range samePlain(t, c, l) {
				told[what]++
			}
			l = marred(r, c, l)
		}
	}
	wantOften(t, told, map[string]int{"ok": 800, "field": 500, "order": 200, "arg": 20, "point": 20, "answer": 200, "linear": 800, "not linear": 300})
}

// samePlain holds all calls against their likenesses: which errors there were, and whether it is linear.
func samePlain(t *testing.T, c api.Config, l []api.Line) map[string]int {
	t.Helper()
	at, errno := plainLegal(c, l)
	wantLegal(t, c, l, at, errno)
	is, e := plainLinear(c, l)
	wantLinear(t, c, l, is, e)
	list, e := plainOrder(c, l)
	wantOrder(t, c, l, e, list...)
	told := map[string]int{errno.Error(): 1}
	if rows, stats, e := plainFold(c, l); e == api.OK {
		wantFold(t, c, l, stats, rows...)
	} else {
		noFold(t, c, l, e)
	}
	if is {
		told["linear"] = 1
		if errno != api.OK {
			told["linear, not legal"] = 1
		}
	} else if _, e := plainForm(c, l); errno != api.OK && e == api.OK {
		told["not linear"] = 1
	}
	return told
}

func wantOften(t *testing.T, told, least map[string]int) {
	t.Helper()
	for what, n := range least {
		if told[what] < n {
			t.Errorf("%v: this tests too little: of %q %d are wanted", told, what, n)
		}
	}
}

// P2103: points say nothing of whether there is an order: with these moved about, and answers that are marred, it is told by search alone.
func TestPointsAreNotLookedAt(t *testing.T) {
	told := map[string]int{}
	for seed := range uint64(1000) {
		r := rand.New(rand.NewPCG(seed, 4))
		c := anyConfig(r)
		l := anyHistory(t, r, c, 15+r.IntN(15), 4, 3+r.IntN(2))
		for range 4 {
			is, e := judge.Linear(c, l)
			moved := repointed(r, l)
			wantLinear(t, c, moved, is, e)
			for what := range samePlain(t, c, moved) {
				told[what]++
			}
			l = deep(l)
			marAnswer(r, l)
		}
	}
	wantOften(t, told, map[string]int{"ok": 300, "linear, not legal": 100, "not linear": 500})
}

// repointed is a history with each point somewhere else between its ask and its answer.
func repointed(r *rand.Rand, l []api.Line) []api.Line {
	var all []api.Line
	points := map[int]api.Line{} // by session: a point that is still to be told
	tell := func(who int) {
		if x, is := points[who]; is {
			all = append(all, x)
			delete(points, who)
		}
	}
	pointOf := func(i int) (api.Line, bool) {
		for _, x := range l[i:] {
			if x.Kind == api.HPoint && x.Who == l[i].Who {
				return x, true
			}
		}
		return api.Line{}, false
	}
	for i, x := range l {
		if x.Kind == api.HAnswer || x.Kind == api.HLeave {
			tell(x.Who)
		}
		if x.Kind != api.HPoint {
			all = append(all, x)
		}
		if p, is := pointOf(i); x.Kind == api.HAsk && is {
			points[x.Who] = p
		}
		for _, who := range slices.Sorted(maps.Keys(points)) {
			if r.IntN(3) == 0 {
				tell(who)
			}
		}
	}
	for _, who := range slices.Sorted(maps.Keys(points)) {
		tell(who)
	}
	return all
}

// P2106: with other names of sessions they tell the same.
func TestNames(t *testing.T) {
	for seed := range uint64(200) {
		r := rand.New(rand.NewPCG(seed, 5))
		c := anyConfig(r)
		l := anyHistory(t, r, c, 60, 5, 9)
		for range r.IntN(3) {
			marAnswer(r, l)
		}
		names := r.Perm(64)
		other := deep(l)
		for i, x := range l {
			if x.Kind > api.HKill {
				other[i].Who = 1 + names[x.Who]
			}
		}
		at, err := judge.Legal(c, l)
		wantLegal(t, c, other, at, numberOf(t, err))
		is, errno := judge.Linear(c, l)
		wantLinear(t, c, other, is, errno)
		if rows, stats, errno := judge.Fold(c, l); errno == api.OK {
			wantFold(t, c, other, stats, rows...)
		} else {
			noFold(t, c, other, errno)
		}
	}
}

// P2107, T3: when nothing is left to do, the map is the fold; and the counts are those that were told.
func TestFoldIsTheMap(t *testing.T) {
	cells := 0
	for seed := range uint64(80) {
		r := rand.New(rand.NewPCG(seed, 6))
		c := anyConfig(r)
		w := ran(t, anyScript(t, r, c, 600, 20), true)
		fates := map[int]int{}
		for _, x := range w.Lines {
			if x.Kind == api.HEvent {
				fates[x.Fate]++
			}
		}
		wantFold(t, c, w.Lines, api.Stats{Taken: fates[1], Late: fates[2], Overflow: fates[3], Full: fates[4], Cells: len(w.Map)}, w.Map...)
		cells += len(w.Map)
	}
	if cells < 150 {
		t.Errorf("%d cells: this tests too little", cells)
	}
}

// P3: the same history is judged the same again.
func TestTwiceTheSame(t *testing.T) {
	for seed := range uint64(60) {
		r := rand.New(rand.NewPCG(seed, 7))
		c := anyConfig(r)
		l := anyHistory(t, r, c, 80, 5, 10)
		for range 2 {
			marAnswer(r, l)
		}
		at, err := judge.Legal(c, l)
		is, e := judge.Linear(c, l)
		order, e1 := judge.Order(c, l)
		for range 3 {
			wantLegal(t, c, l, at, numberOf(t, err))
			wantLinear(t, c, l, is, e)
			wantOrder(t, c, l, e1, order...)
		}
	}
}

// P2: what is handed in is not changed, its spare room neither.
func TestHandedInStays(t *testing.T) {
	for seed := range uint64(60) {
		r := rand.New(rand.NewPCG(seed, 8))
		c := anyConfig(r)
		l := anyHistory(t, r, c, 80, 4, 10)
		for i, x := range l {
			l[i].Request.Cells = append(slices.Clone(x.Request.Cells), cell("z", 9), cell("y", 8))[:len(x.Request.Cells)]
			l[i].Response.Rows = append(slices.Clone(x.Response.Rows), row("z", 9, 1), row("y", 8, 2))[:len(x.Response.Rows)]
		}
		if seed%3 == 0 {
			marAnswer(r, l)
		}
		l = append(l, api.Line{Kind: 77})[:len(l)]
		c.Views = append(slices.Clone(c.Views), api.View{Size: 3}, api.View{Slide: 4})[:len(c.Views)]
		lines, views := deep(l), slices.Clone(spare(c.Views))
		judge.Legal(c, l)
		judge.Order(c, l)
		judge.Linear(c, l)
		judge.Fold(c, l)
		if !slices.EqualFunc(spare(l), spare(lines), sameRoom) || !slices.Equal(spare(c.Views), views) {
			t.Fatal("what was handed in is changed")
		}
	}
}

// sameRoom holds two lines against each other, with the spare room of their lists.
func sameRoom(a, b api.Line) bool {
	return sameLine(a, b) && slices.Equal(spare(a.Request.Cells), spare(b.Request.Cells)) && slices.Equal(spare(a.Response.Rows), spare(b.Response.Rows))
}

// P2: what was told is new memory: who writes over it, and over the history, changes nothing of what is told else.
func TestToldIsNew(t *testing.T) {
	for seed := range uint64(40) {
		r := rand.New(rand.NewPCG(seed, 9))
		c := anyConfig(r)
		l := anyHistory(t, r, c, 80, 4, 10)
		copied := deep(l)
		order, _ := judge.Order(c, l)
		fold, stats, _ := judge.Fold(c, l)
		wantOrder, wantRows := slices.Clone(order), slices.Clone(fold)
		again, _ := judge.Order(c, l)
		rowsAgain, _, _ := judge.Fold(c, l)
		clear(spare(again))
		clear(spare(rowsAgain))
		wantFold(t, c, l, stats, wantRows...)
		for _, x := range l {
			clear(spare(x.Request.Cells))
			clear(spare(x.Response.Rows))
		}
		clear(spare(l))
		if !slices.Equal(order, wantOrder) || !slices.Equal(fold, wantRows) {
			t.Fatal("what was told hangs on what was handed in, or on what was told else")
		}
		legal(t, c, copied...)
	}
}

// P2, P7: an error of Legal tells the same, whatever is told behind it.
func TestErrorsStay(t *testing.T) {
	_, one := judge.Legal(small(), lines(kill("a", 0)))
	text := one.Error()
	_, two := judge.Legal(small(), lines(open(1), open(1)))
	if !errors.Is(one, api.ErrPoint) || !errors.Is(two, api.ErrOrder) || errors.Is(two, api.ErrPoint) || one.Error() != text {
		t.Errorf("%v, %v", one, two)
	}
}

// P1: every call ends, and none panics, whatever lines there are.
func TestAnyLines(t *testing.T) {
	number := func(r *rand.Rand) int { return []int{0, 0, 1, 2, 3, 64, 65, -1, 1<<63 - 1, -1 << 63}[r.IntN(10)] }
	long := func(r *rand.Rand) int64 { return int64(number(r)) }
	key := func(r *rand.Rand) string { return string(make([]byte, max(0, r.IntN(40)-4))) }
	for seed := range uint64(4000) {
		r := rand.New(rand.NewPCG(seed, 10))
		c := anyConfig(r)
		l := anyHistory(t, r, c, 20, 3, 4)
		for range 1 + r.IntN(4) {
			x := api.Line{Kind: r.IntN(11), Who: number(r), No: r.IntN(3)}
			if len(l) > 0 {
				x = l[r.IntN(len(l))]
			}
			switch r.IntN(6) {
			case 0:
				x.Who, x.No, x.From, x.Fate = number(r), number(r), number(r), number(r)
			case 1:
				x.Item = api.Item{Mark: r.IntN(2) == 0, Key: key(r), Time: long(r), Value: long(r)}
			case 2:
				x.Cell = api.Cell{View: number(r), Key: key(r), Start: long(r)}
			case 3:
				x.Request = api.Request{Kind: r.IntN(9), Id: number(r), Epoch: number(r), Cells: make([]api.Cell, r.IntN(3)), Limit: number(r)}
			case 4:
				x.Response = api.Response{Kind: r.IntN(7), Id: number(r), Err: api.Errno(number(r)), Epoch: number(r), Rows: make([]api.Row, r.IntN(3)), Stats: api.Stats{Now: number(r)}}
			}
			i := r.IntN(len(l) + 1)
			l = slices.Insert(l, i, x)
		}
		if r.IntN(9) == 0 {
			c.Operators, c.Pins = number(r), number(r)
		}
		samePlain(t, c, l)
	}
}
