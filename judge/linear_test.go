package judge_test

import (
	"fmt"
	"testing"
	"time"

	"spate/api"
	"spate/judge"
)

// pinning are sessions that ask for pins, none of which is answered; the first one's number is who.
func pinning(who, count int) []api.Line {
	var list []api.Line
	for i := range count {
		list = append(list, ask(who+i, 0, pin()))
	}
	return list
}

// hear is a point that is in vain, and an answer.
func hear(who, no int, r api.Response) []api.Line {
	return lines(point(who, no), answer(who, no, r))
}

// P2103: the chapter's examples.
func TestLinearExamples(t *testing.T) {
	c := small()
	linear(t, c, lines(taken("a", 5, 7), mark(10), kill("a", 0)))
	notLinear(t, c, lines(taken("a", 5, 7), kill("a", 0)))
	notLinear(t, c, lines(event("a", 5, 7, api.FLate)))
	l := join(opened(2), pinning(1, 2), lines(point(1, 0), point(2, 0), answer(2, 0, sealed(1))))
	linear(t, c, l)
	linear(t, c, l, lines(answer(1, 0, sealed(2))))
	notLinear(t, c, l, lines(answer(1, 0, sealed(1))))
	notLinear(t, c, l, lines(answer(1, 0, sealed(3))))
	linear(t, c)
}

// P2103: the errors: Check's, the form's of the first line, then ErrMany; what a model would refuse is none.
func TestLinearErrors(t *testing.T) {
	c := small()
	wantLinear(t, c, lines(open(1), kill("a", 0), leave(2), api.Line{}), false, api.ErrOrder)
	wantLinear(t, c, lines(open(1), kill("a", 0), api.Line{}, leave(2)), false, api.ErrField)
	wantLinear(t, c, lines(open(1), ask(1, 0, pin()), answer(1, 0, sealed(1))), false, api.ErrOrder)
	many := opened(1)
	for i := range 13 {
		many = append(many, whole(1, i, stats(), counts(api.Stats{Now: 1}))...)
	}
	linear(t, c, many[:37])
	wantLinear(t, c, many[:38], false, api.ErrMany)
	wantLinear(t, c, join(lines(kill("a", 0)), many), false, api.ErrMany)
	wantLinear(t, c, join(many, lines(api.Line{})), false, api.ErrField)
	wantLinear(t, c, join(many, lines(leave(2))), false, api.ErrOrder)
	wantLinear(t, c, join(opened(13), pinning(1, 12)), true, api.OK)
	wantLinear(t, c, join(opened(13), pinning(1, 13)), false, api.ErrMany)
}

// P2103: events, marks and kills stay where they are, with all that P2101 asks of them.
func TestLinearPipeline(t *testing.T) {
	c := two()
	notLinear(t, c, lines(by(0, 0, taken(keyOf1, 5, 7))))
	notLinear(t, c, lines(by(0, 0, kill(keyOf1, 5))))
	notLinear(t, small(), lines(taken("a", 5, 7), mark(10), mark(11)))
	notLinear(t, small(), lines(taken("a", 5, 7), mark(10), taken("a", 15, 7)))
	notLinear(t, small(), lines(mark(10), event("a", 5, 7, api.FFull)))
	linear(t, small(), lines(mark(10), event("a", 5, 7, api.FLate), event("a", 15, 7, api.FFull)))
	// Also if it is behind all requests.
	notLinear(t, small(), opened(1), whole(1, 0, pin(), sealed(1)), lines(kill("a", 0)))
}

// P2103: a request is done behind its HAsk and ahead of its HAnswer, its point is nothing to it.
func TestLinearWindow(t *testing.T) {
	c := small()
	write := lines(taken("a", 5, 7))
	asked := lines(ask(1, 0, get(0, cell("a", 0))))
	before, behind := rows(row("a", 0)), rows(row("a", 0, 7))
	for _, l := range [][]api.Line{join(opened(1), asked, lines(point(1, 0)), write), join(opened(1), asked, write, lines(point(1, 0)))} {
		linear(t, c, l, lines(answer(1, 0, before)))
		linear(t, c, l, lines(answer(1, 0, behind)))
		notLinear(t, c, l, lines(answer(1, 0, rows(row("a", 0, 6)))))
		notLinear(t, c, l, lines(answer(1, 0, bad(api.ErrEpoch))))
	}
	linear(t, c, opened(1), write, asked, hear(1, 0, behind))
	notLinear(t, c, opened(1), write, asked, hear(1, 0, before))
	linear(t, c, opened(1), asked, hear(1, 0, before), write)
	notLinear(t, c, opened(1), asked, hear(1, 0, behind), write)
	// Each state in between may be the one: also one that a kill brought.
	l := join(opened(1), write, asked, lines(taken("a", 6, 1), mark(10), kill("a", 0), taken("b", 15, 2)))
	for _, r := range []api.Row{row("a", 0, 7), row("a", 0, 7, 1), row("a", 0)} {
		linear(t, c, l, hear(1, 0, rows(r)))
	}
	notLinear(t, c, l, hear(1, 0, rows(row("a", 0, 1))))
	notLinear(t, c, l, hear(1, 0, rows(row("b", 10, 2))))
	notLinear(t, c, l, hear(1, 0, api.Response{Kind: api.SRows, Id: 1, Rows: []api.Row{row("a", 0)}}))
}

// P2103: what is answered ahead of what is asked comes first; what is done at once may come in any order.
func TestLinearRealTime(t *testing.T) {
	c := small()
	notLinear(t, c, opened(2), whole(1, 0, pin(), sealed(2)), whole(2, 0, pin(), sealed(1)))
	linear(t, c, opened(2), pinning(1, 2), hear(1, 0, sealed(2)), hear(2, 0, sealed(1)))
	notLinear(t, c, opened(3), pinning(1, 2), hear(1, 0, sealed(2)), hear(2, 0, sealed(1)), whole(3, 0, pin(), sealed(2)))
	linear(t, c, opened(3), pinning(1, 2), hear(1, 0, sealed(2)), hear(2, 0, sealed(1)), whole(3, 0, pin(), sealed(3)))
	// Each once.
	notLinear(t, c, opened(2), whole(1, 0, pin(), sealed(1)), whole(2, 0, pin(), sealed(3)))
	linear(t, c, opened(3), whole(1, 0, pin(), sealed(1)), pinning(3, 1), whole(2, 0, pin(), sealed(3)))
	notLinear(t, c, opened(3), whole(1, 0, pin(), sealed(1)), pinning(3, 1), whole(2, 0, pin(), sealed(4)))
	notLinear(t, c, opened(3), whole(1, 0, pin(), sealed(1)), whole(2, 0, pin(), sealed(3)), pinning(3, 1))
}

// P2103: a session's requests are done in their order.
func TestLinearInOrder(t *testing.T) {
	c := with(func(c *api.Config) { c.Pins = 2 })
	linear(t, c, opened(1), whole(1, 0, pin(), sealed(1)), whole(1, 1, release(1), done()), whole(1, 2, release(1), bad(api.ErrEpoch)))
	notLinear(t, c, opened(1), whole(1, 0, release(1), done()), whole(1, 1, pin(), sealed(1)))
	linear(t, c, opened(1), whole(1, 0, pin(), sealed(1)), whole(1, 1, pin(), sealed(2)), whole(1, 2, pin(), bad(api.ErrPins)))
	notLinear(t, c, opened(1), whole(1, 0, pin(), sealed(1)), whole(1, 1, pin(), bad(api.ErrPins)))
	notLinear(t, c, opened(1), whole(1, 0, pin(), sealed(1)), whole(1, 1, pin(), sealed(2)), whole(1, 2, pin(), sealed(3)))
}

// P2103: a refused request stays refused, one that is not is never so answered.
func TestLinearRefused(t *testing.T) {
	c := small()
	refused := bad(api.ErrBusy)
	linear(t, c, opened(1), lines(ask(1, 0, pin()), busy(1, 0), answer(1, 0, refused)), whole(1, 1, pin(), sealed(1)))
	notLinear(t, c, opened(1), lines(ask(1, 0, pin()), busy(1, 0), answer(1, 0, sealed(1))))
	notLinear(t, c, opened(1), lines(ask(1, 0, pin())), hear(1, 0, refused))
	notLinear(t, c, opened(1), lines(ask(1, 0, pin()), busy(1, 0), answer(1, 0, refused)), whole(1, 1, pin(), sealed(2)))
	// Also one that is not answered.
	l := join(opened(2), lines(ask(1, 0, pin())))
	linear(t, c, l, lines(point(1, 0)), whole(2, 0, pin(), sealed(2)))
	notLinear(t, c, l, lines(busy(1, 0)), whole(2, 0, pin(), sealed(2)))
	linear(t, c, l, whole(2, 0, pin(), sealed(2)))
}

// P2103: what is not answered is done once, ahead of its session's leave, or not at all.
func TestLinearNotAnswered(t *testing.T) {
	c := small()
	l := join(opened(2), lines(ask(1, 0, pin()), point(1, 0)))
	linear(t, c, l, whole(2, 0, pin(), sealed(1)))
	linear(t, c, l, whole(2, 0, pin(), sealed(2)))
	notLinear(t, c, l, whole(2, 0, pin(), sealed(3)))
	l = append(l, leave(1))
	linear(t, c, l, whole(2, 0, pin(), sealed(1)))
	linear(t, c, l, whole(2, 0, pin(), sealed(2)))
	notLinear(t, c, l, whole(2, 0, pin(), sealed(1)), whole(2, 1, stats(), counts(api.Stats{Now: 3})))
	linear(t, c, l[:4], whole(2, 0, pin(), sealed(1)), whole(2, 1, stats(), counts(api.Stats{Now: 3})))
	// What it seals is of the map there.
	read := func(r api.Row) []api.Line {
		return join(whole(2, 0, joining(1), done()), whole(2, 1, get(1, cell("a", 0)), rows(r)))
	}
	l = join(opened(2), lines(ask(1, 0, pin()), taken("a", 5, 7), taken("a", 5, 1)))
	for _, r := range []api.Row{row("a", 0), row("a", 0, 7), row("a", 0, 7, 1)} {
		linear(t, c, l, read(r))
	}
	notLinear(t, c, l, read(row("a", 0, 1)))
	notLinear(t, c, opened(2), lines(taken("a", 5, 7), ask(1, 0, pin())), read(row("a", 0)))
}

// P2103: what a session held is let go by its leave, whatever was not answered.
func TestLinearLeave(t *testing.T) {
	c := small()
	l := join(opened(2), whole(1, 0, pin(), sealed(1)))
	linear(t, c, l, lines(ask(2, 0, joining(1)), leave(1)), hear(2, 0, done()))
	linear(t, c, l, lines(ask(2, 0, joining(1)), leave(1)), hear(2, 0, bad(api.ErrEpoch)))
	notLinear(t, c, l, lines(leave(1)), whole(2, 0, joining(1), done()))
	notLinear(t, c, l, whole(2, 0, joining(1), bad(api.ErrEpoch)), lines(leave(1)))
	// A pin that is not answered is not done behind it.
	unheard := join(opened(2), lines(ask(1, 0, pin()), point(1, 0)))
	linear(t, c, unheard, lines(ask(2, 0, joining(1)), leave(1)), hear(2, 0, done()))
	notLinear(t, c, unheard, lines(leave(1)), whole(2, 0, joining(1), done()))
	// A release that is not answered may have been done, or not, but not behind the leave.
	l = append(l, ask(1, 1, release(1)), point(1, 1))
	linear(t, c, l, whole(2, 0, joining(1), done()))
	linear(t, c, l, whole(2, 0, joining(1), bad(api.ErrEpoch)))
	notLinear(t, c, l, lines(leave(1)), whole(2, 0, joining(1), done()))
	// Likewise a join.
	l = join(opened(3), whole(1, 0, pin(), sealed(1)), lines(ask(2, 0, joining(1)), leave(1), point(2, 0)))
	linear(t, c, l, whole(3, 0, joining(1), done()))
	linear(t, c, l, whole(3, 0, joining(1), bad(api.ErrEpoch)))
	notLinear(t, c, l, lines(leave(2)), whole(3, 0, joining(1), done()))
}

// P2103: of two pins that are not answered it hangs on the order which one's epoch is still held, when one of them leaves.
func TestLinearWhoHolds(t *testing.T) {
	c := with(func(c *api.Config) { c.Pins = 9 })
	left := join(opened(4), pinning(1, 2), whole(3, 0, stats(), counts(api.Stats{Now: 3})), lines(point(1, 0), leave(1)))
	one, two := whole(3, 1, joining(1), done()), whole(3, 1, joining(2), done())
	linear(t, c, left, one)
	linear(t, c, left, two)
	notLinear(t, c, left, one, whole(3, 2, joining(2), done()))
	linear(t, c, left, one, whole(3, 2, joining(2), bad(api.ErrEpoch)))
	linear(t, c, left, two, whole(3, 2, joining(1), bad(api.ErrEpoch)))
	notLinear(t, c, left, whole(3, 1, joining(1), bad(api.ErrEpoch)), whole(3, 2, joining(2), bad(api.ErrEpoch)))
	linear(t, c, left, lines(point(2, 0), leave(2)), whole(3, 1, joining(1), bad(api.ErrEpoch)), whole(3, 2, joining(2), bad(api.ErrEpoch)))
	// What is held up to a line is so ahead of that.
	mixed := join(opened(3), lines(ask(1, 0, pin()), ask(2, 0, scan(0, 1)), point(1, 0)), whole(3, 0, stats(), counts(api.Stats{Now: 3})))
	for epoch := 1; epoch <= 3; epoch++ {
		wantLinear(t, c, join(mixed, lines(ask(3, 1, joining(epoch)), leave(1)), hear(3, 1, done())), epoch < 3, api.OK)
	}
	// Whoever joined holds it on.
	linear(t, c, left, one, lines(point(2, 0), leave(2)), whole(4, 0, joining(1), done()))
	notLinear(t, c, left, one, lines(point(2, 0), leave(2)), whole(4, 0, joining(2), done()))
}

// P2103: scans at the present seal, too; what they tell says where they were.
func TestLinearScans(t *testing.T) {
	c := small()
	a, b := rows(row("a", 0, 7)), rows(row("a", 0, 7), row("b", 0, 1))
	l := join(opened(3), lines(ask(1, 0, scan(0, 9)), ask(2, 0, pin()), taken("a", 5, 7), ask(3, 0, scan(0, 9)), taken("b", 5, 1)))
	linear(t, c, l, hear(1, 0, b), hear(3, 0, a), hear(2, 0, sealed(2)))
	linear(t, c, l, hear(1, 0, rows()), hear(3, 0, b), hear(2, 0, sealed(3)))
	notLinear(t, c, l, hear(1, 0, rows()), hear(3, 0, rows()), hear(2, 0, sealed(2)))
	notLinear(t, c, l, hear(1, 0, b), hear(3, 0, b), hear(2, 0, sealed(4)))
	// The first pin is behind no scan here, so that its map is without a.
	l = join(opened(2), lines(ask(2, 0, pin()), ask(1, 0, scan(0, 9)), taken("a", 5, 7)), hear(1, 0, rows()))
	linear(t, c, l, hear(2, 0, sealed(1)), whole(2, 1, get(1, cell("a", 0)), rows(row("a", 0))))
	notLinear(t, c, l, hear(2, 0, sealed(1)), whole(2, 1, get(1, cell("a", 0)), a))
	linear(t, c, l, hear(2, 0, sealed(2)), whole(2, 1, get(2, cell("a", 0)), a))
	linear(t, c, l, hear(2, 0, sealed(2)), whole(2, 1, scan(2, 9), a))
	notLinear(t, c, l, hear(2, 0, sealed(2)), whole(2, 1, scan(2, 9), b))
	linear(t, c, l, hear(2, 0, sealed(2)), whole(2, 1, scan(1, 9), bad(api.ErrEpoch)))
	notLinear(t, c, l, hear(2, 0, sealed(2)), whole(2, 1, scan(1, 9), rows()))
}

// P2103: what is read at an epoch is the map at its seal, by all that read it.
func TestLinearReads(t *testing.T) {
	c := small()
	l := join(opened(2), lines(ask(1, 0, pin()), taken("a", 5, 7), taken("b", 5, 1)), hear(1, 0, sealed(1)), whole(2, 0, joining(1), done()))
	at := func(who, no int, c api.Cell, r api.Row) []api.Line { return whole(who, no, get(1, c), rows(r)) }
	linear(t, c, l, at(1, 1, cell("a", 0), row("a", 0, 7)), at(2, 1, cell("b", 0), row("b", 0)))
	linear(t, c, l, at(1, 1, cell("a", 0), row("a", 0)), at(2, 1, cell("b", 0), row("b", 0)))
	notLinear(t, c, l, at(1, 1, cell("a", 0), row("a", 0)), at(2, 1, cell("b", 0), row("b", 0, 1)))
	// A pin that is to be later does not hold up what is to be done now.
	linear(t, c, opened(2), whole(2, 0, pin(), sealed(1)), lines(ask(1, 0, pin()), ask(2, 1, release(1))), hear(2, 1, done()),
		lines(taken("a", 5, 7)), hear(1, 0, sealed(2)), whole(1, 1, get(2, cell("a", 0)), rows(row("a", 0, 7))))
	// Who holds it hears rows.
	notLinear(t, c, l, whole(1, 1, get(1, cell("a", 0)), bad(api.ErrEpoch)))
	notLinear(t, c, l, whole(1, 1, scan(1, 9), bad(api.ErrEpoch)))
	// Nothing that comes later is seen.
	notLinear(t, c, l, lines(taken("a", 5, 9)), at(1, 1, cell("a", 0), row("a", 0, 7, 9)))
}

// P2103: counts: those of a place, with the epoch that is now there.
func TestLinearStats(t *testing.T) {
	c := small()
	l := join(opened(2), lines(ask(1, 0, stats()), taken("a", 5, 7)), whole(2, 0, pin(), sealed(1)), lines(taken("b", 5, 1)))
	for _, x := range []struct {
		stats api.Stats
		want  bool
	}{
		{api.Stats{Now: 1}, true},
		{api.Stats{Now: 2}, false},
		{api.Stats{Taken: 1, Cells: 1, Now: 1}, true},
		{api.Stats{Taken: 1, Cells: 1, Now: 2}, true},
		{api.Stats{Taken: 1, Cells: 1, Now: 3}, false},
		{api.Stats{Taken: 2, Cells: 2, Now: 1}, false},
		{api.Stats{Taken: 2, Cells: 2, Now: 2}, true},
		{api.Stats{Taken: 2, Cells: 1, Now: 2}, false},
		{api.Stats{Taken: 1, Late: 1, Cells: 1, Now: 1}, false},
		{api.Stats{}, false},
	} {
		wantLinear(t, c, join(l, hear(1, 0, counts(x.stats))), x.want, api.OK)
	}
}

// P2103: answers of another kind than the request's are heard nowhere.
func TestLinearKinds(t *testing.T) {
	all := []api.Response{rows(), rows(row("a", 0)), sealed(1), done(), counts(api.Stats{Now: 1}), bad(api.ErrEpoch), bad(api.ErrPins), bad(api.ErrMany), bad(api.ErrDown)}
	for _, x := range []struct {
		q    api.Request
		want int // which of all
	}{
		{get(0, cell("a", 0)), 1}, {get(1, cell("a", 0)), 5}, {multi(0, cell("a", 0)), 1}, {scan(0, 1), 0}, {scan(2, 1), 5}, {pin(), 2}, {joining(1), 5}, {release(1), 5}, {stats(), 4},
	} {
		for i, r := range all {
			l := join(opened(1), whole(1, 0, x.q, r))
			wantLinear(t, small(), l, i == x.want, api.OK)
			if n, err := judge.Legal(small(), l); (err == nil) != (i == x.want) || i != x.want && n != 3 {
				t.Errorf("%+v: %d, %v", l, n, err)
			}
		}
	}
}

// soon fails a test that takes too long: with twelve requests at once a search of all orders would not come to an end.
func soon(t *testing.T, name string, search func()) {
	t.Helper()
	over := make(chan bool)
	go func() {
		search()
		close(over)
	}()
	select {
	case <-over:
	case <-time.After(time.Minute):
		t.Fatalf("%s: it does not end", name)
	}
}

// P1, P2103: twelve requests that are all there at once, and no order, or one alone.
func TestManyAtOnce(t *testing.T) {
	c := with(func(c *api.Config) { c.Pins = 12 })
	events := func(n int) []api.Line {
		var list []api.Line
		for i := range n {
			list = append(list, taken(fmt.Sprint("k", i%5), int64(i%10), 1))
		}
		return list
	}
	last := func(now int, taken int) []api.Line {
		return whole(12, 0, stats(), counts(api.Stats{Taken: taken, Cells: min(taken, 5), Now: now}))
	}
	soon(t, "pins that are not answered", func() {
		l := join(opened(12), pinning(1, 11), events(200))
		linear(t, c, l, last(12, 200))
		linear(t, c, l, last(1, 200))
		notLinear(t, c, l, last(13, 200))
		notLinear(t, c, l, last(9, 201))
	})
	soon(t, "pins that are", func() {
		l := join(opened(12), pinning(1, 12), events(100))
		var right, missing []api.Line
		for i := range 12 {
			right = append(right, hear(1+i, 0, sealed(12-i))...)
			missing = append(missing, hear(1+i, 0, sealed(13-i))...)
		}
		linear(t, c, l, right)
		notLinear(t, c, l, missing)
	})
	soon(t, "scans", func() {
		l := opened(12)
		for i := range 11 {
			l = append(l, ask(1+i, 0, scan(0, 1+i)))
		}
		l = append(l, ask(12, 0, stats()))
		var told []api.Line
		for i := range 11 {
			told = append(told, hear(1+i, 0, rows())...)
		}
		linear(t, c, l, events(100), told, hear(12, 0, counts(api.Stats{Now: 7})))
		notLinear(t, c, l, events(100), told, hear(12, 0, counts(api.Stats{Now: 13})))
	})
	soon(t, "pins and joins", func() {
		l := join(opened(12), pinning(1, 6))
		for i := range 5 {
			l = append(l, ask(7+i, 0, joining(1+i)))
		}
		linear(t, c, l, last(7, 0), hear(7, 0, done()))
		notLinear(t, c, l, last(8, 0), hear(7, 0, done()))
	})
}
