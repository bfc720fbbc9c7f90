package mark_test

import (
	"math"
	"math/rand/v2"
	"slices"
	"testing"

	"spate/api"
	"spate/mark"
)

// telling is what a source tells.
type telling struct {
	source int
	time   int64
}

// marksOf are those behind tellings in this order.
func marksOf(t *testing.T, sources int, all []telling) *mark.Marks {
	t.Helper()
	m := newMarks(t, sources)
	for _, one := range all {
		m.Rise(one.source, one.time)
	}
	return m
}

// listed tells all marks, and the least.
func listed(m *mark.Marks) [10]int64 {
	var all [10]int64
	for source := range 9 {
		all[source] = m.Of(source)
	}
	all[9] = m.Least()
	return all
}

// orders are all orders of 0 to n - 1.
func orders(n int) [][]int {
	if n == 0 {
		return [][]int{nil}
	}
	var all [][]int
	for _, rest := range orders(n - 1) {
		for place := range n {
			all = append(all, slices.Insert(slices.Clone(rest), place, n-1))
		}
	}
	return all
}

// P1305: Least is the same in all orders of the same tellings, those of one source among them.
func TestAllOrders(t *testing.T) {
	all := []telling{{0, 5}, {1, 3}, {0, 9}, {2, -4}, {1, 7}, {2, 8}, {0, -1 << 60}}
	for _, order := range orders(len(all)) {
		var told []telling
		for _, n := range order {
			told = append(told, all[n])
		}
		wantMarks(t, marksOf(t, 3, told), 9, 7, 8)
	}
}

// P1305: likewise of many tellings, in some orders, wrong ones between them.
func TestSomeOrders(t *testing.T) {
	r := rand.New(rand.NewPCG(3, 3))
	for range 300 {
		sources := 1 + r.IntN(8)
		all := []telling{{0, api.MaxTime + 1}, {sources, 4}, {-1, 4}}
		for range 3 * sources {
			all = append(all, telling{r.IntN(sources), anyTime(r)})
		}
		want := listed(marksOf(t, sources, all))
		for range 5 {
			r.Shuffle(len(all), func(i, j int) { all[i], all[j] = all[j], all[i] })
			if got := listed(marksOf(t, sources, all)); got != want {
				t.Fatalf("%v: %v; want %v", all, got, want)
			}
		}
	}
}

// P1305: no mark falls, and Least does not; what Open tells of a time later was told of it earlier, and what is late stays it.
func TestNothingComesBack(t *testing.T) {
	r := rand.New(rand.NewPCG(4, 4))
	fewer := 0
	for range 300 {
		sources := 1 + r.IntN(4)
		m, views, around := newMarks(t, sources), anyViews(r), anyTime(r)
		far := int64(10)
		for _, v := range views {
			far = max(far, v.Size+v.Late)
		}
		var times []int64
		for range 10 {
			times = append(times, near(r, around, far))
		}
		before, told := listed(m), tell(m, times, views)
		for range 30 {
			m.Rise(r.IntN(sources+1), near(r, around, 2*far))
			now := listed(m)
			for i := range now {
				if now[i] < before[i] {
					t.Fatalf("%v behind %v", now, before)
				}
			}
			later := tell(m, times, views)
			for i := range later {
				if !among(later[i].cells, told[i].cells) || told[i].late && !later[i].late {
					t.Fatalf("%v, %d: %v behind %v", views, times[i], later[i], told[i])
				}
				if len(later[i].cells) < len(told[i].cells) {
					fewer++
				}
			}
			before, told = now, later
		}
	}
	if fewer < 2000 {
		t.Errorf("only %d times a window was closed: this tests too little", fewer)
	}
}

// tell asks of several times.
func tell(m *mark.Marks, times []int64, views []api.View) []answer {
	var all []answer
	for _, time := range times {
		all = append(all, open(m, time, views...))
	}
	return all
}

func among(some, all []api.Cell) bool {
	return !slices.ContainsFunc(some, func(c api.Cell) bool { return !slices.Contains(all, c) })
}

// P1, P4: every call ends and none panics, whatever is given; an error changes nothing and stands beside zero values.
func TestWhateverIsGiven(t *testing.T) {
	numbers := append(wrongTimes(), -1<<60, -1<<40, -64, -1, 0, 1, 64, 65, 1<<40, 1<<57, 1<<58, 1<<60)
	views := append(wrongViews(), wideViews()...)
	for _, size := range numbers {
		for _, slide := range numbers {
			views = append(views, api.View{Size: size, Slide: slide, Late: numbers[len(views)%len(numbers)]})
		}
	}
	x := newBoth(t, 3)
	for n, v := range views {
		for i, time := range numbers {
			x.open(time, v)
			x.open(time, views[n/2], v, views[(n+i)%len(views)])
		}
		x.rise(n%5-1, numbers[n%len(numbers)])
	}
	for _, source := range []int{math.MinInt, -1, 0, 1, 2, 3, math.MaxInt} {
		for _, time := range numbers {
			x.rise(source, time)
		}
	}
}

// P2: views that are handed in are neither changed nor kept, their spare room neither.
func TestWhatIsHandedIn(t *testing.T) {
	m := under(t, 7)
	room := []api.View{{Size: 10, Slide: 5}, {Size: 4, Slide: 4}, {Size: 9, Slide: 9}, {}, {Late: -3}, {Size: 77}}
	was := slices.Clone(room)
	for n := range room {
		for _, time := range []int64{2, -9, 30, 1 << 61} {
			m.Open(time, room[:n]...)
		}
	}
	if !slices.Equal(room, was) {
		t.Errorf("%v; want %v", room, was)
	}
	cells, _, _ := m.Open(7, room[:2]...)
	clear(room)
	want := []api.Cell{at(0, 0), at(0, 5), at(1, 4)}
	if !slices.Equal(cells, want) {
		t.Errorf("%v; want %v", cells, want)
	}
	wantOpen(t, m, was[:2], 7, false, want...)
}

// P2: no views are none, whether the list is nil or has room.
func TestNilAndEmpty(t *testing.T) {
	m := under(t, 7)
	for _, views := range [][]api.View{nil, {}, make([]api.View, 0, 9)} {
		wantOpen(t, m, views, 2, false)
		wantNone(t, m, views, 1<<61, api.ErrTime)
	}
}

// P2: an answer is new memory, its spare room too: who writes into it changes neither the marks nor other answers.
func TestAnswersAreNew(t *testing.T) {
	m := under(t, 7)
	views := exampleViews()
	for _, time := range []int64{2, 7, -9} {
		want := open(m, time, views...)
		kept := slices.Clone(want.cells)
		spoiled := open(m, time, views...).cells
		spoiled = spoiled[:cap(spoiled)]
		for i := range spoiled {
			spoiled[i] = api.Cell{View: 9, Key: "x", Start: 99}
		}
		if !slices.Equal(want.cells, kept) {
			t.Errorf("%v; want %v", want.cells, kept)
		}
		wantOpen(t, m, views, time, want.late, kept...)
		wantMarks(t, m, 7)
	}
}

// The way: what is told is cut out of a longer list, so that nothing of that list can be come by in its spare room.
func TestNoSpareRoom(t *testing.T) {
	for mark := int64(-20); mark <= 20; mark++ {
		if a := open(under(t, mark), 2, exampleViews()...); cap(a.cells) != len(a.cells) {
			t.Errorf("under %d: %d cells, room for %d", mark, len(a.cells), cap(a.cells))
		}
	}
}

// P5: lists that were answered stay what they were, whatever is told and asked behind them.
func TestListsStay(t *testing.T) {
	m := newMarks(t, 2)
	views := exampleViews()
	var lists, were [][]api.Cell
	for time := int64(-20); time <= 20; time++ {
		a := open(m, time/2, views...)
		lists, were = append(lists, a.cells), append(were, slices.Clone(a.cells))
		m.Rise(0, time)
		m.Rise(1, time-3)
	}
	for i := range lists {
		if !slices.Equal(lists[i], were[i]) {
			t.Errorf("%v; was %v", lists[i], were[i])
		}
	}
}

// P3, P7: two marks that are called alike tell the same, and have nothing in common.
func TestTwiceTheSame(t *testing.T) {
	r := rand.New(rand.NewPCG(5, 5))
	for range 200 {
		sources := 1 + r.IntN(8)
		one, two, other := newMarks(t, sources), newMarks(t, sources), newMarks(t, sources)
		for range 40 {
			source, time, asked, views := r.IntN(sources+1), r.Int64N(200)-100, r.Int64N(200)-100, anyViews(r)
			roseOne, errnoOne := one.Rise(source, time)
			other.Rise(r.IntN(sources), api.MaxTime)
			first := open(one, asked, views...)
			open(other, asked, views...)
			roseTwo, errnoTwo := two.Rise(source, time)
			if roseOne != roseTwo || errnoOne != errnoTwo || listed(one) != listed(two) || !first.same(open(two, asked, views...)) || !first.same(open(one, asked, views...)) {
				t.Fatalf("Rise(%d, %d), Open(%d, %v): not twice the same", source, time, asked, views)
			}
		}
	}
}
