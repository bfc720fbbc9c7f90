package model_test

import (
	"math"
	"math/rand/v2"
	"slices"
	"strings"
	"testing"

	"spate/agg"
	"spate/api"
	"spate/codec"
	"spate/model"
	"spate/pane"
)

// P1901 to P1907: whatever is called, by chance, a model tells what its plain likeness does.
func TestAnyCalls(t *testing.T) {
	var all api.Stats
	for seed := range uint64(100) {
		r := rand.New(rand.NewPCG(seed, 1))
		c := anyConfig(r)
		x, g := newBoth(t, c), newCalls(r, c)
		for range 250 {
			g.next(x)
		}
		now := x.m.Stats()
		all.Taken, all.Late, all.Overflow, all.Full = all.Taken+now.Taken, all.Late+now.Late, all.Overflow+now.Overflow, all.Full+now.Full
		all.Cells, all.Now = all.Cells+now.Cells, all.Now+now.Now
	}
	if all.Taken < 2500 || all.Late < 600 || all.Overflow < 80 || all.Full < 600 || all.Cells < 500 || all.Now < 600 {
		t.Errorf("%+v: this tests too little", all)
	}
}

// P1907: by chance, too, a twin goes on as its model would have, and neither tells of what is done to the other one.
func TestAnyTwin(t *testing.T) {
	for seed := range uint64(60) {
		r := rand.New(rand.NewPCG(seed, 2))
		c := anyConfig(r)
		x, g := newBoth(t, c), newCalls(r, c)
		for range 100 {
			g.next(x)
		}
		twin, before, then := x.m.Twin(), print(x.m), *g
		wantPrint(t, twin, before)
		g.r, then.r = rand.New(rand.NewPCG(seed, 3)), rand.New(rand.NewPCG(seed, 3))
		likeness := x.p.twin()
		for range 100 {
			g.next(x)
		}
		wantPrint(t, twin, before)
		after := print(x.m)
		for range 100 {
			then.next(both{t, twin, likeness})
		}
		wantPrint(t, twin, after)
		wantPrint(t, x.m, after)
	}
}

// wantSeals asks that each epoch that is held is told as it was at its seal, to whoever holds it.
func wantSeals(t *testing.T, m *model.Model, holds map[hold]bool, seals map[int][]api.Row) int {
	t.Helper()
	asked := 0
	for h := range holds {
		if then, held := m.At(h.epoch); !held || !slices.Equal(then, seals[h.epoch]) {
			t.Fatalf("At(%d): %v, %v; want %v", h.epoch, then, held, seals[h.epoch])
		}
		wantAsk(t, m, h.session, scan(3, h.epoch, 256), rows(3, seals[h.epoch]...))
		asked++
	}
	return asked
}

// P1908, T2: from its seal to its last release each epoch is told as the map was at its seal, whoever asks, whatever events, marks, kills, refused requests come.
func TestEpochsStay(t *testing.T) {
	asked := 0
	for seed := range uint64(40) {
		r := rand.New(rand.NewPCG(seed, 4))
		c := anyConfig(r)
		x, g := newBoth(t, c), newCalls(r, c)
		holds, seals := map[hold]bool{}, map[int][]api.Row{}
		for n := range 120 {
			switch session := 1 + r.IntN(4); n % 6 {
			case 0:
				now := x.m.Map()
				if a := x.ask(session, pin(1), api.OK); a.Kind == api.SEpoch {
					holds[hold{session, a.Epoch}], seals[a.Epoch] = true, now
				}
			case 1:
				epoch := 1 + r.IntN(x.m.Stats().Now)
				if a := x.ask(session, join(1, epoch), api.OK); a.Kind == api.SDone {
					holds[hold{session, epoch}] = true
				}
			case 2:
				epoch := 1 + r.IntN(x.m.Stats().Now)
				x.ask(session, release(1, epoch), api.OK)
				delete(holds, hold{session, epoch})
			case 3:
				x.ask(session, g.request(x.p.now), api.ErrBusy)
			default:
				for range 4 {
					g.pipeline(x)
				}
			}
			asked += wantSeals(t, x.m, holds, seals)
		}
	}
	if asked < 4000 {
		t.Errorf("%d were asked: this tests too little", asked)
	}
}

// P1909: each cell that is there has agg's Fold of the values of the events that were taken while its window was open at its operator, in their order, and there is no other cell.
func TestCellsAreFolds(t *testing.T) {
	cells := 0
	for seed := range uint64(80) {
		r := rand.New(rand.NewPCG(seed, 5))
		c := anyConfig(r)
		m, g := newModel(t, c), newCalls(r, c)
		marks := make([][]int64, c.Operators)
		for operator := range marks {
			marks[operator] = slices.Repeat([]int64{api.NoMark}, c.Sources)
		}
		values := map[api.Cell][]int64{}
		for range 200 {
			if r.IntN(6) == 0 {
				operator, source, time := r.IntN(c.Operators), r.IntN(c.Sources), g.time()
				if m.Mark(operator, source, time) == api.OK {
					marks[operator][source] = max(marks[operator][source], time)
				}
				killAll(m)
				continue
			}
			x := g.item()
			least := slices.Min(marks[m.Operator(x.Key)])
			if fate, errno := m.Event(x, r.IntN(5) == 0); errno != api.OK || fate != api.FTaken {
				continue
			}
			for view, v := range c.Views {
				open, _ := pane.Open(v, x.Time, least)
				for _, start := range open {
					at := api.Cell{View: view, Key: x.Key, Start: start}
					values[at] = append(values[at], x.Value)
				}
			}
		}
		for at := range values {
			if pane.Closed(c.Views[at.View], at.Start, slices.Min(marks[m.Operator(at.Key)])) {
				delete(values, at)
			}
		}
		for _, x := range m.Map() {
			if want, err := agg.Fold(values[x.Cell]); err != nil || x.Agg != want || want.Count == 0 {
				t.Fatalf("%v; want %v, %v", x, want, err)
			}
			cells++
		}
		if len(m.Map()) != len(values) {
			t.Fatalf("%d cells; want %d", len(m.Map()), len(values))
		}
	}
	if cells < 500 {
		t.Errorf("%d cells: this tests too little", cells)
	}
}

// killAll kills what is due, by asking for each cell in order, and tells which these were.
func killAll(m *model.Model) []api.Cell {
	var gone []api.Cell
	for _, x := range m.Map() {
		if m.Kill(x.Cell) == api.OK {
			gone = append(gone, x.Cell)
		}
	}
	return gone
}

// act is what is done at an operator.
type act struct {
	item   api.Item // its Mark: that of a source
	source int
	full   bool
	kill   api.Cell // if it has a Key
}

// answer is what an act is answered.
type answer struct {
	fate  int
	errno api.Errno
}

func (a act) of(m *model.Model, operator int) answer {
	switch {
	case a.kill.Key != "":
		return answer{0, m.Kill(a.kill)}
	case a.item.Mark:
		return answer{0, m.Mark(operator, a.source, a.item.Time)}
	}
	fate, errno := m.Event(a.item, a.full)
	return answer{fate, errno}
}

// acts are some for each operator, of a run by chance.
func acts(g *calls, m *model.Model) [][]act {
	all := make([][]act, g.c.Operators)
	add := func(operator int, a act) {
		a.of(m, operator)
		all[operator] = append(all[operator], a)
	}
	for range 80 {
		switch n := g.r.IntN(10); {
		case n == 0:
			operator := g.r.IntN(g.c.Operators)
			add(operator, act{item: api.Item{Mark: true, Time: g.time()}, source: g.r.IntN(g.c.Sources)})
		case n < 5:
			for _, x := range m.Map() {
				add(m.Operator(x.Key), act{kill: x.Cell})
			}
		default:
			x := g.item()
			x.Mark = false
			add(m.Operator(x.Key), act{item: x, full: g.r.IntN(6) == 0})
		}
	}
	return all
}

// mixed does acts, each operator's in their order, mixed by chance: what each was answered.
func mixed(r *rand.Rand, m *model.Model, all [][]act) [][]answer {
	answers := make([][]answer, len(all))
	for {
		var left []int
		for operator, list := range all {
			if len(answers[operator]) < len(list) {
				left = append(left, operator)
			}
		}
		if len(left) == 0 {
			return answers
		}
		operator := left[r.IntN(len(left))]
		next := all[operator][len(answers[operator])]
		answers[operator] = append(answers[operator], next.of(m, operator))
	}
}

// P1910: what is done at unlike operators may change places: the same answers, the same map, the same counts.
func TestOperatorsApart(t *testing.T) {
	taken := 0
	for seed := range uint64(80) {
		r := rand.New(rand.NewPCG(seed, 6))
		c := anyConfig(r)
		c.Operators = 2 + r.IntN(7)
		all := acts(newCalls(r, c), newModel(t, c))
		first := newModel(t, c)
		want := mixed(r, first, all)
		taken += first.Stats().Taken
		for range 6 {
			m := newModel(t, c)
			if got := mixed(r, m, all); !slices.EqualFunc(got, want, slices.Equal) {
				t.Fatalf("answered %v; want %v", got, want)
			}
			wantPrint(t, m, print(first))
		}
	}
	if taken < 1000 {
		t.Errorf("%d were taken: this tests too little", taken)
	}
}

// P1910: what a session asks is answered the same, whatever another one does, but for the numbers of epochs.
func TestSessionsApart(t *testing.T) {
	then := 0 // requests that were answered rows of an epoch
	for seed := range uint64(60) {
		r := rand.New(rand.NewPCG(seed, 7))
		c := anyConfig(r)
		alone, m, g := newModel(t, c), newModel(t, c), newCalls(r, c)
		var epochs, others []int // of like places: the session's own
		for range 150 {
			for range r.IntN(3) {
				m.Ask(2, g.request(m.Stats().Now-1), api.OK)
			}
			if r.IntN(8) == 0 {
				m.Leave(2)
			}
			if r.IntN(2) == 0 {
				x := g.item()
				m.Event(x, false)
				alone.Event(x, false)
				continue
			}
			q := g.request(0)
			p := q
			if n := r.IntN(len(epochs) + 1); n < len(epochs) && q.Kind != api.RPin && q.Kind != api.RStats {
				q.Epoch, p.Epoch = epochs[n], others[n]
			} else if q.Kind == api.RJoin || q.Kind == api.RRelease {
				continue
			}
			a, b := ask(t, alone, 1, q), ask(t, m, 1, p)
			if a.Kind == api.SEpoch && b.Kind == api.SEpoch {
				epochs, others = append(epochs, a.Epoch), append(others, b.Epoch)
				b.Epoch = a.Epoch
			}
			if a.Kind == api.SRows && q.Epoch > 0 {
				then++
			}
			a.Stats.Now, b.Stats.Now = 0, 0
			if q.Kind == api.RJoin && a.Err == api.ErrEpoch && b.Kind == api.SDone {
				// The other one holds it still: by Join it is seen.
				ask(t, m, 1, release(1, p.Epoch))
				continue
			}
			if !codec.SameResponse(a, b) && !(q.Kind == api.RJoin && a.Err == api.ErrEpoch && b.Err == api.ErrPins) {
				t.Fatalf("%+v: %+v; want %+v", p, b, a)
			}
		}
	}
	if then < 300 {
		t.Errorf("%d were asked: this tests too little", then)
	}
}

// P1, P4: every call ends and none panics, whatever is given; what errs stands beside zero values and changes nothing.
func TestWhateverIsGiven(t *testing.T) {
	numbers := []int64{math.MinInt64, -1 << 62, -1 << 61, -1<<60 - 1, -1 << 60, -1 << 40, -65, -1, 0, 1, 3, 9, 10, 64, 65, 1 << 40, 1 << 60, 1<<60 + 1, 1 << 61, 1 << 62, math.MaxInt64}
	keys := []string{"", "k", "\xff", strings.Repeat("k", 32), strings.Repeat("k", 33), strings.Repeat("k", 1<<12)}
	made := newModel(t, with(func(c *api.Config) {
		c.Views, c.Operators = []api.View{{Size: 1 << 40, Slide: 1 << 34, Late: 1 << 40}, {Size: 3, Slide: 10}}, 3
	}))
	for _, m := range []*model.Model{made, {}} {
		for _, number := range numbers {
			n := int(number)
			for _, key := range keys {
				for _, other := range numbers {
					for _, full := range []bool{false, true} {
						if fate, errno := m.Event(item(key, number, other), full); (fate == 0) != (errno != api.OK) {
							t.Fatalf("Event: %d, %v", fate, errno)
						}
					}
					c := api.Cell{View: int(other), Key: key, Start: number}
					m.Kill(c)
					wantEither(t, m, n, get(int(other), 0, c))
					wantEither(t, m, int(other), span(1, n, 3, c, api.Cell{View: n, Key: key, Start: other}))
				}
				m.Operator(key)
			}
			for kind := -1; kind < 10; kind++ {
				wantEither(t, m, 1, api.Request{Kind: kind, Epoch: n})
				wantEither(t, m, n, api.Request{Kind: kind, Id: n})
			}
			for _, operator := range []int{math.MinInt, -1, 0, 2, 3, math.MaxInt} {
				m.Mark(operator, n, number)
				m.Mark(operator, 0, -number)
			}
			m.Leave(n)
			m.At(n)
			m.Twin().Map()
		}
		m.Stats()
	}
	for _, n := range numbers {
		for _, v := range []api.View{{Size: n, Slide: 1}, {Size: 1, Slide: n}, {Size: 1, Slide: 1, Late: n}} {
			c := with(func(c *api.Config) { c.Views, c.Slots = []api.View{v}, int(n) })
			if m, errno := model.New(c); (m == nil) != (errno != api.OK) {
				t.Fatalf("New(%+v): %v, %v", c, m, errno)
			}
		}
	}
}

// wantEither asks that an error stands beside no response, and that a response may be written.
func wantEither(t *testing.T, m *model.Model, session int, q api.Request) {
	t.Helper()
	for _, refused := range []api.Errno{api.OK, api.ErrDown, 99} {
		r, errno := m.Ask(session, q, refused)
		if errno != api.OK && !codec.SameResponse(r, api.Response{}) {
			t.Fatalf("Ask(%d, %+v): %+v, %v", session, q, r, errno)
		}
		if errno == api.OK && m.Stats().Now > 0 && codec.CheckResponse(r) != api.OK {
			t.Fatalf("Ask(%d, %+v): %+v", session, q, r)
		}
	}
}

// P4: a response has the fields of its kind, and no others, by whatever it was asked.
func TestZeroFields(t *testing.T) {
	m := newModel(t, with(func(c *api.Config) { c.Pins = 3 }))
	take(t, m, item("a", 3, 4))
	ask(t, m, 1, pin(1))
	for _, q := range []api.Request{pin(1), scan(1, 0, 9), scan(1, 1, 9), scan(1, 9, 9), get(1, 1, cell("a", 0)), get(1, 8, cell("a", 0)), join(1, 1), join(1, 9), release(1, 1), release(1, 1), stats(1)} {
		r := ask(t, m, 1, q)
		// What the codec lays out is all that there is.
		body, _ := codec.EncodeResponse(r)
		if back, err := codec.DecodeResponse(body); err != nil || !codec.SameResponse(back, r) {
			t.Errorf("%+v: %+v; %+v, %v", q, r, back, err)
		}
	}
}

// P2: what is handed in is neither changed nor kept, its spare room neither.
func TestWhatIsHandedIn(t *testing.T) {
	views := []api.View{{Size: 10, Slide: 10}, {Size: 5, Slide: 5}, {Size: 77, Slide: 77}}
	wereViews := slices.Clone(views)
	m := newModel(t, with(func(c *api.Config) { c.Views = views[:2] }))
	cells := []api.Cell{cell("a", 0), cell("b", 0), cell("spare", 9)}
	wereCells := slices.Clone(cells)
	take(t, m, item("a", 3, 4))
	r := ask(t, m, 1, multi(1, 0, cells[:2]...))
	if !slices.Equal(views, wereViews) || !slices.Equal(cells, wereCells) {
		t.Errorf("%v, %v: what is handed in is written into", views, cells)
	}
	clear(views)
	clear(cells)
	take(t, m, item("a", 3, 4))
	wantMap(t, m, row("a", 0, 4, 4), rowOf(api.Cell{View: 1, Key: "a"}, []int64{4, 4}))
	wantMark(t, m, 0, 0, 5, api.OK)
	wantKill(t, m, api.Cell{View: 1, Key: "a"}, api.OK)
	if !slices.Equal(r.Rows, []api.Row{row("a", 0, 4), row("b", 0)}) {
		t.Errorf("%v: the answer has changed", r.Rows)
	}
}

// spoil writes into a list and its spare room.
func spoil(list []api.Row) {
	list = list[:cap(list)]
	for i := range list {
		list[i] = row("x", 99, 1)
	}
}

// P2: an answer is new memory, its spare room too: who writes into it changes neither the model nor other answers.
func TestAnswersAreNew(t *testing.T) {
	x := newBoth(t, with(func(c *api.Config) { c.Pins = 9 }))
	for n := range int64(9) {
		x.event(item("a", n*10, n), false)
		x.event(item("b", n*10, n), false)
		epoch := x.ask(1, pin(1), api.OK).Epoch
		for _, at := range []int{0, epoch} {
			for _, q := range []api.Request{get(1, at, cell("a", 0)), multi(1, at, cell("a", 0), cell("b", 0)), scan(1, at, 3), scan(1, at, 256)} {
				one, two := ask(t, x.m, 1, q), ask(t, x.m, 1, q)
				x.p.now += 2 * (1 - min(at, 1)) * (q.Kind / api.RScan)
				spoil(one.Rows)
				if x.ask(1, q, api.OK); !slices.Equal(two.Rows, x.p.read(1, q).Rows) {
					t.Fatalf("%+v: %v", q, two.Rows)
				}
				x.p.now -= (1 - min(at, 1)) * (q.Kind / api.RScan)
			}
		}
		spoil(x.m.Map())
		then, _ := x.m.At(epoch)
		spoil(then)
		x.same()
	}
}

// P5: lists that were answered stay what they were, whatever is called behind them.
func TestListsStay(t *testing.T) {
	r := rand.New(rand.NewPCG(1, 8))
	c := anyConfig(r)
	x, g := newBoth(t, c), newCalls(r, c)
	var lists, were [][]api.Row
	for range 200 {
		g.next(x)
		epoch := x.ask(1, pin(1), api.OK).Epoch
		then, _ := x.m.At(epoch)
		for _, list := range [][]api.Row{x.m.Map(), then, x.ask(1, scan(1, 0, 9), api.OK).Rows, x.ask(1, scan(1, epoch, 9), api.OK).Rows} {
			lists, were = append(lists, list), append(were, slices.Clone(list))
		}
		x.ask(1, release(1, max(epoch, 1)), api.OK)
	}
	for i := range lists {
		if !slices.Equal(lists[i], were[i]) {
			t.Fatalf("%v; was %v", lists[i], were[i])
		}
	}
}

// P3, P7: two models that are called alike tell the same, and have nothing in common with each other or with a third.
func TestTwiceTheSame(t *testing.T) {
	for seed := range uint64(40) {
		c := anyConfig(rand.New(rand.NewPCG(seed, 9)))
		third := newModel(t, c)
		empty := print(third)
		one, two := newBoth(t, c), newBoth(t, c)
		g, h := newCalls(rand.New(rand.NewPCG(seed, 10)), c), newCalls(rand.New(rand.NewPCG(seed, 10)), c)
		for range 120 {
			g.next(one)
			h.next(two)
		}
		wantPrint(t, two.m, print(one.m))
		wantPrint(t, third, empty)
	}
}
