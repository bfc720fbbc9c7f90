package oper_test

import (
	"math"
	"math/rand/v2"
	"slices"
	"testing"

	"spate/api"
	"spate/oper"
)

// someCells are cells by chance: those of an event's windows, and now and then one that may not be, or is late.
func someCells(r *rand.Rand, x both, around int64) []api.Cell {
	var cells []api.Cell
	for range 1 + r.IntN(2) {
		key := anyKey(r)
		cells = append(cells, x.take(key, near(r, around, 40)).cells...)
		if r.IntN(20) == 0 {
			cells = append(cells, cell(r.IntN(6)-1, key, near(r, around, 40)))
		}
	}
	return cells
}

// P1402 to P1406, P1407: whatever is called, by chance, an operator tells what its plain likeness does; all live cells are open, Least never falls, and what Mark told is gone for good.
func TestAnyCalls(t *testing.T) {
	r := rand.New(rand.NewPCG(4, 4))
	went, late, refused := 0, 0, 0
	for n := range 300 {
		views := smallViews(r)
		if n%3 == 0 {
			views = anyViews(r)
		}
		sources := 1 + r.IntN(3)
		x := newBoth(t, sources, views...)
		around := anyTime(r)
		var gone []api.Cell
		for range 60 {
			before := x.o.Least()
			switch r.IntN(4) {
			case 0:
				told, _ := x.mark(r.IntN(sources), near(r, around, 20))
				gone = append(gone, told...)
				around = min(around+r.Int64N(5), api.MaxTime)
			case 1:
				if x.take(anyKey(r), near(r, around, 60)).late {
					late++
				}
			default:
				if x.wrote(someCells(r, x, around)...) != api.OK {
					refused++
				}
			}
			if x.o.Least() < before {
				t.Fatalf("Least %d behind %d", x.o.Least(), before)
			}
			wantAllOpen(x)
		}
		went += len(gone)
		wantGone(x, gone)
	}
	if went < 2000 || late < 200 || refused < 200 {
		t.Errorf("%d went, %d late, %d refused: this tests too little", went, late, refused)
	}
}

// wantAllOpen asks P1407's first word.
func wantAllOpen(x both) {
	x.t.Helper()
	for _, c := range x.o.Live() {
		if x.p.isClosed(c) {
			x.t.Fatalf("%v is live, and closed under %d", c, x.o.Least())
		}
	}
}

// wantGone asks that each of what Mark told was told once, and comes back by nothing (P1407).
func wantGone(x both, gone []api.Cell) {
	x.t.Helper()
	for i, c := range ordered(gone) {
		if i > 0 && ordered(gone)[i-1] == c {
			x.t.Fatalf("%v was told twice", c)
		}
		if errno := x.o.Wrote([]api.Cell{c}); errno != api.ErrLate {
			x.t.Fatalf("Wrote(%v), which is gone: %v", c, errno)
		}
		size := x.p.views[c.View].Size
		for _, time := range []int64{c.Start, c.Start + size/2, c.Start + size - 1} {
			if slices.Contains(take(x.o, c.Key, min(max(time, -api.MaxTime), api.MaxTime)).cells, c) {
				x.t.Fatalf("Take tells %v, which is gone", c)
			}
		}
	}
	for _, c := range x.o.Live() {
		if slices.Contains(gone, c) {
			x.t.Fatalf("%v is live, and is gone", c)
		}
	}
}

// P1407: a cell that never was live is not told; one that was is told once, whatever marks come behind.
func TestToldOnce(t *testing.T) {
	o := newOper(t, 2, exampleViews()...)
	wantTake(t, o, "k", 12, false, cell(0, "k", 10), cell(1, "k", 5), cell(1, "k", 10))
	wantWrote(t, o, api.OK, cell(1, "k", 5), cell(1, "k", 5))
	wantWrote(t, o, api.OK, cell(1, "k", 5))
	wantMark(t, o, 0, 18)
	wantMark(t, o, 1, 18, cell(1, "k", 5))
	for _, time := range []int64{18, 5, 19, 100, 1 << 60} {
		for source := range 2 {
			wantMark(t, o, source, time)
			wantWrote(t, o, api.ErrLate, cell(1, "k", 5))
			if slices.Contains(take(o, "k", 12).cells, cell(1, "k", 5)) {
				t.Errorf("Take tells a cell that is gone")
			}
		}
	}
	wantState(t, o, 1<<60)
}

// telling is what a source tells.
type telling struct {
	source int
	time   int64
}

// mixed are tellings, each source's in its order, mixed by chance; with below, marks below the source's greatest one come between.
func mixed(r *rand.Rand, lists [][]int64, below bool) []telling {
	next := make([]int, len(lists))
	highest := slices.Repeat([]int64{least}, len(lists))
	left := 0
	for _, list := range lists {
		left += len(list)
	}
	var all []telling
	for left > 0 {
		source := r.IntN(len(lists))
		if below && highest[source] > -api.MaxTime && r.IntN(2) == 0 {
			all = append(all, telling{source, max(highest[source]-r.Int64N(9), -api.MaxTime)})
		}
		if next[source] == len(lists[source]) {
			continue
		}
		time := lists[source][next[source]]
		all = append(all, telling{source, time})
		highest[source] = max(highest[source], time)
		next[source]++
		left--
	}
	return all
}

// behind tells what an operator has come to behind tellings: all that went, in order, what is live, and what it tells of times.
func behind(o *oper.Oper, all []telling, times []int64) (gone, live []api.Cell, told []taken) {
	for _, one := range all {
		cells, _ := o.Mark(one.source, one.time)
		gone = append(gone, cells...)
	}
	for _, time := range times {
		told = append(told, take(o, "k", time))
	}
	return ordered(gone), o.Live(), told
}

// P1408: what comes of marks is the same in whatever order unlike sources tell them, and whatever lower ones come between.
func TestOrderOfSources(t *testing.T) {
	r := rand.New(rand.NewPCG(5, 5))
	went := 0
	for range 200 {
		views, sources, around := smallViews(r), 1+r.IntN(4), anyTime(r)
		lists := make([][]int64, sources)
		for source := range lists {
			for range 1 + r.IntN(4) {
				lists[source] = append(lists[source], near(r, around, 15))
			}
		}
		var times []int64
		var cells []api.Cell
		for range 10 {
			times = append(times, near(r, around, 20))
			cells = append(cells, take(newOper(t, 1, views...), anyKey(r), near(r, around, 20)).cells...)
		}
		ask := func(all []telling) (gone, live []api.Cell, told []taken) {
			o := newOper(t, sources, views...)
			wantWrote(t, o, api.OK, cells...)
			return behind(o, all, times)
		}
		gone, live, told := ask(mixed(r, lists, false))
		went += len(gone)
		for n := range 6 {
			all := mixed(r, lists, n%2 == 1)
			gone2, live2, told2 := ask(all)
			if !slices.Equal(gone, gone2) || !slices.Equal(live, live2) || !slices.EqualFunc(told, told2, taken.same) {
				t.Fatalf("%v of %v: %v, %v, %v; want %v, %v, %v", all, views, gone2, live2, told2, gone, live, told)
			}
		}
	}
	if went < 1000 {
		t.Errorf("%d went: this tests too little", went)
	}
}

// P1408: one more mark, behind the same ones in whatever order, tells the same cells.
func TestOneMoreMark(t *testing.T) {
	orders := [][]telling{
		{{0, 10}, {1, 20}, {2, 12}},
		{{2, 12}, {1, 20}, {0, 10}},
		{{1, 20}, {0, 10}, {2, 12}},
		{{1, 5}, {1, 20}, {0, 10}, {0, 9}, {2, 12}, {1, -3}},
		{{0, 10}, {0, -1 << 60}, {2, 12}, {2, 12}, {1, 20}, {2, 11}},
	}
	for _, all := range orders {
		o := newOper(t, 3, exampleViews()...)
		behind(o, all, nil)
		wantState(t, o, 10)
		wantWrote(t, o, api.OK, cell(1, "k", 0), cell(1, "a", 5), cell(0, "k", 10))
		wantMark(t, o, 1, 30)
		wantMark(t, o, 0, 12)
		wantMark(t, o, 2, 40)
		wantMark(t, o, 0, 18, cell(1, "a", 5), cell(1, "k", 0))
		wantState(t, o, 18, cell(0, "k", 10))
	}
}

// P1, P4: every call ends and none panics, whatever is given; an error changes nothing and stands beside zero values.
func TestWhateverIsGiven(t *testing.T) {
	numbers := append(wrongTimes(), -1<<60, -1<<40, -64, -1, 0, 1, 64, 65, 1<<40, 1<<57, 1<<60)
	views := append(wrongViews(), wideViews()...)
	for _, size := range numbers {
		for _, slide := range numbers {
			views = append(views, api.View{Size: size, Slide: slide, Late: numbers[len(views)%len(numbers)]})
		}
	}
	ints := []int{math.MinInt, -1 << 32, -1, 0, 1, 2, 3, 4, 5, 8, 9, 1 << 32, math.MaxInt}
	for n, v := range views {
		for _, sources := range ints {
			o, errno := oper.New([]api.View{v, views[n/2]}, sources)
			if (o == nil) != (errno != api.OK) {
				t.Fatalf("New(%v, %d): %v, %v", v, sources, o, errno)
			}
		}
	}
	keys := append(wrongKeys(), rightKeys()...)
	x := newBoth(t, 3, wideViews()[2:6]...)
	for n, number := range numbers {
		for _, key := range keys {
			x.take(key, number)
			for _, view := range ints {
				x.wrote(cell(view, key, number))
				x.wrote(cell(0, "k", number), cell(view, key, numbers[len(numbers)-1-n]))
			}
		}
		for _, source := range ints {
			x.mark(source, number)
		}
		for _, other := range numbers {
			x.o.Reckon(api.Agg{Count: number, Sum: other, Min: other, Max: number}, other)
		}
	}
}

// P2: views and cells that are handed in are neither changed nor kept, their spare room neither.
func TestWhatIsHandedIn(t *testing.T) {
	views := append(exampleViews(), api.View{Size: 77, Slide: 77}, api.View{Late: -3})
	wereViews := slices.Clone(views)
	cells := []api.Cell{cell(1, "k", 10), cell(0, "k", 10), cell(1, "k", 5), cell(3, "spare", 9), {}}
	wereCells := slices.Clone(cells)
	o := newOper(t, 1, views[:2]...)
	wantWrote(t, o, api.OK, cells[:3]...)
	wantWrote(t, o, api.ErrView, cells...)
	wantTake(t, o, "k", 12, false, cell(0, "k", 10), cell(1, "k", 5), cell(1, "k", 10))
	if !slices.Equal(views, wereViews) || !slices.Equal(cells, wereCells) {
		t.Errorf("%v, %v; want %v, %v", views, cells, wereViews, wereCells)
	}
	clear(views)
	clear(cells)
	wantTake(t, o, "k", 12, false, cell(0, "k", 10), cell(1, "k", 5), cell(1, "k", 10))
	wantWrote(t, o, api.ErrField, cell(1, "k", 6))
	wantState(t, o, api.NoMark, cell(0, "k", 10), cell(1, "k", 5), cell(1, "k", 10))
	wantMark(t, o, 0, 18, cell(1, "k", 5))
	if slices.ContainsFunc(views, func(v api.View) bool { return v != api.View{} }) || slices.ContainsFunc(cells, func(c api.Cell) bool { return c != api.Cell{} }) {
		t.Errorf("%v, %v: what was handed in is written into", views, cells)
	}
}

// P2: no list and an empty one are the same.
func TestNilAndEmpty(t *testing.T) {
	o := newOper(t, 1, exampleViews()...)
	for _, cells := range [][]api.Cell{nil, {}, make([]api.Cell, 0, 9)} {
		wantWrote(t, o, api.OK, cells...)
	}
	for _, views := range [][]api.View{nil, {}, make([]api.View, 0, 4)} {
		if o, errno := oper.New(views, 1); o != nil || errno != api.ErrConfig {
			t.Errorf("New of no views: %v, %v", o, errno)
		}
	}
}

// spoil writes into a list and its spare room.
func spoil(cells []api.Cell) {
	cells = cells[:cap(cells)]
	for i := range cells {
		cells[i] = cell(9, "x", 99)
	}
}

// P2: an answer is new memory, its spare room too: who writes into it changes neither the operator nor other answers.
func TestAnswersAreNew(t *testing.T) {
	x := newBoth(t, 1, exampleViews()...)
	for time := int64(-30); time <= 30; time++ {
		cells, _, _ := x.o.Take("k", time)
		x.wrote(cells...)
		spoil(cells)
		x.take("k", time)
		spoil(x.o.Live())
		x.same()
		one, other := x.o.Live(), x.o.Live()
		spoil(other)
		if !slices.Equal(one, ordered(x.p.cells)) {
			t.Errorf("%v; want %v", one, x.p.cells)
		}
		gone, _ := x.mark(0, time-5)
		spoil(gone)
		x.same()
	}
}

// P5: lists that were answered stay what they were, whatever is called behind them.
func TestListsStay(t *testing.T) {
	o := newOper(t, 1, exampleViews()...)
	var lists, were [][]api.Cell
	keep := func(cells []api.Cell) {
		lists, were = append(lists, cells), append(were, slices.Clone(cells))
	}
	for time := int64(-30); time <= 30; time++ {
		cells, _, _ := o.Take("k", time)
		keep(cells)
		o.Wrote(cells)
		keep(o.Live())
		gone, _ := o.Mark(0, time-5)
		keep(gone)
		keep(o.Live())
	}
	for i := range lists {
		if !slices.Equal(lists[i], were[i]) {
			t.Errorf("%v; was %v", lists[i], were[i])
		}
	}
}

// P3, P7: two operators that are called alike tell the same, and have nothing in common with each other or with a third.
func TestTwiceTheSame(t *testing.T) {
	r := rand.New(rand.NewPCG(6, 6))
	for range 100 {
		views, sources := smallViews(r), 1+r.IntN(3)
		one, two, other := newOper(t, sources, views...), newOper(t, sources, views...), newOper(t, sources, views...)
		for range 40 {
			key, time, source, mark := anyKey(r), r.Int64N(60)-30, r.IntN(sources+1), r.Int64N(60)-40
			first := take(one, key, time)
			one.Wrote(first.cells)
			goneOne, errnoOne := one.Mark(source, mark)
			other.Wrote(take(other, anyKey(r), time).cells)
			other.Mark(r.IntN(sources), mark+r.Int64N(50))
			second := take(two, key, time)
			two.Wrote(second.cells)
			goneTwo, errnoTwo := two.Mark(source, mark)
			if !first.same(second) || !slices.Equal(goneOne, goneTwo) || errnoOne != errnoTwo || one.Least() != two.Least() || !slices.Equal(one.Live(), two.Live()) {
				t.Fatalf("%v: Take(%q, %d), Mark(%d, %d): not twice the same", views, key, time, source, mark)
			}
		}
	}
}
