package model_test

import (
	"math"
	"strings"
	"testing"

	"spate/api"
)

// wrongRequests are such as may not be written, each with its error.
func wrongRequests() map[api.Errno][]api.Request {
	seventeen := make([]api.Cell, 17)
	for i := range seventeen {
		seventeen[i] = cell("k", 0)
	}
	return map[api.Errno][]api.Request{
		api.ErrKind:  {{}, {Kind: 8}, {Kind: -1}, {Kind: math.MaxInt}},
		api.ErrField: {{Kind: api.RGet}, {Kind: api.RPin, Id: -1}, {Kind: api.RPin, Id: 1<<40 + 1}, {Kind: api.RStats, Epoch: 1}, {Kind: api.RJoin}, {Kind: api.RRelease}, {Kind: api.RRelease, Epoch: 1<<40 + 1}, {Kind: api.RMulti}, get(1, -1, cell("k", 0)), {Kind: api.RPin, Limit: 1}},
		api.ErrMany:  {multi(1, 0, seventeen...), scan(1, 0, 0), scan(1, 0, 257), scan(1, 0, -1)},
		api.ErrView:  {get(1, 0, api.Cell{View: 4, Key: "k"}), span(1, 0, 1, api.Cell{View: 5}, api.Cell{})},
		api.ErrKey:   {get(1, 0, api.Cell{}), get(1, 0, cell(strings.Repeat("k", 33), 0)), span(1, 0, 1, api.Cell{}, cell(strings.Repeat("k", 33), 0))},
		api.ErrTime:  {get(1, 0, cell("k", 1<<61+1)), span(1, 0, 1, cell("", -1<<61-1), api.Cell{})},
	}
}

// P1905: what of an asking may not be is told in the order session, request, refusal; nothing changes.
func TestWrongAsks(t *testing.T) {
	m := newModel(t, small())
	take(t, m, item("k", 5, 1))
	ask(t, m, 1, pin(1))
	before := print(m)
	refusals := []api.Errno{api.OK, api.ErrBusy, api.ErrDown, api.ErrFull, -1, 99}
	for errno, list := range wrongRequests() {
		for _, q := range list {
			for _, refused := range refusals {
				for _, session := range []int{math.MinInt, -1, 0, 65, math.MaxInt} {
					wantRefused(t, m, session, q, refused, api.ErrArg)
					wantRefused(t, m, session, scan(1, 0, 1), refused, api.ErrArg)
				}
				wantRefused(t, m, 1, q, refused, errno)
				wantRefused(t, m, 64, q, refused, errno)
			}
		}
	}
	for _, refused := range []api.Errno{api.ErrFull, api.ErrArg, api.ErrEpoch, api.ErrPins, api.ErrGone, -1, 34, 37, 255, math.MaxInt, math.MinInt} {
		for _, q := range []api.Request{pin(1), scan(1, 0, 1), release(1, 1), join(1, 1), stats(1), get(1, 0, cell("k", 0))} {
			wantRefused(t, m, 1, q, refused, api.ErrArg)
		}
	}
	wantPrint(t, m, before)
}

// P1905, T7: whatever is asked, refused from outside it is answered that, and nothing changes.
func TestRefusedFromOutside(t *testing.T) {
	m := newModel(t, with(func(c *api.Config) { c.Pins = 2 }))
	take(t, m, item("k", 5, 1))
	wantAsk(t, m, 1, pin(1), sealed(1, 1))
	before := print(m)
	for _, refused := range []api.Errno{api.ErrBusy, api.ErrDown} {
		for id, q := range []api.Request{pin(0), scan(1, 0, 1), release(2, 1), join(3, 1), stats(4), get(5, 0, cell("k", 0)), multi(6, 1, cell("k", 0)), scan(7, 9, 1), release(8, 7)} {
			for _, session := range []int{1, 2, 64} {
				r, errno := m.Ask(session, q, refused)
				if errno != api.OK || r.Kind != api.SError || r.Err != refused || r.Id != id || len(r.Rows) != 0 || r.Epoch != 0 || r.Stats != (api.Stats{}) {
					t.Errorf("Ask(%d, %+v, %v): %+v, %v", session, q, refused, r, errno)
				}
			}
		}
	}
	wantPrint(t, m, before)
}

// P1905: Get and Multi tell a row for each of Cells, in their order, the zero aggregate of those that are not there, also of those that no view has.
func TestGetAndMulti(t *testing.T) {
	m := newModel(t, with(func(c *api.Config) { c.Views = append(c.Views, api.View{Size: 5, Slide: 5}) }))
	take(t, m, item("b", 3, 4), item("a", 3, -7), item("a", 12, 2), item("a", 4, 9))
	one := api.Cell{View: 1, Key: "a", Start: 10}
	wantAsk(t, m, 64, multi(7, 0, cell("b", 0), one, cell("a", 0), cell("b", 0), cell("a", 20), cell("c", 0), api.Cell{View: 3, Key: "a"}, cell("a", 1), cell("a", -1<<61)),
		rows(7, row("b", 0, 4), rowOf(one, []int64{2}), row("a", 0, -7, 9), row("b", 0, 4), row("a", 20), row("c", 0), api.Row{Cell: api.Cell{View: 3, Key: "a"}}, row("a", 1), row("a", -1<<61)))
	wantAsk(t, m, 1, get(1<<40, 0, one), rows(1<<40, rowOf(one, []int64{2})))
	wantAsk(t, m, 1, get(0, 0, cell("x", 0)), rows(0, row("x", 0)))
	wantStats(t, m, api.Stats{Taken: 4, Cells: 6, Now: 1})
	sixteen := make([]api.Cell, 16)
	want := make([]api.Row, 16)
	for i := range sixteen {
		sixteen[i] = cell("a", int64(i)*10)
		want[i] = row("a", int64(i)*10)
	}
	want[0], want[1] = row("a", 0, -7, 9), row("a", 10, 2)
	wantAsk(t, m, 1, multi(1, 0, sixteen...), rows(1, want...))
}

// P1905: a Get, a Multi, a Scan at an epoch that the session does not hold is refused, whoever else holds it.
func TestNotHeld(t *testing.T) {
	m := newModel(t, with(func(c *api.Config) { c.Pins = 3 }))
	take(t, m, item("a", 3, 4))
	wantAsk(t, m, 1, pin(1), sealed(1, 1))
	wantAsk(t, m, 2, pin(2), sealed(2, 2))
	before := print(m)
	for _, epoch := range []int{2, 3, 4, 1 << 40} {
		for _, q := range []api.Request{get(5, epoch, cell("a", 0)), multi(5, epoch, cell("a", 0), cell("b", 0)), scan(5, epoch, 9)} {
			wantAsk(t, m, 1, q, bad(5, api.ErrEpoch))
			wantAsk(t, m, 3, q, bad(5, api.ErrEpoch))
		}
	}
	wantPrint(t, m, before)
}

// P1905, T2: at an epoch all is told as it was at its seal, whatever came behind; a Scan there seals nothing.
func TestAtAnEpoch(t *testing.T) {
	m := newModel(t, with(func(c *api.Config) { c.Pins = 3 }))
	take(t, m, item("a", 3, 4), item("b", 13, 4))
	wantAsk(t, m, 1, pin(1), sealed(1, 1))
	take(t, m, item("a", 3, 1), item("b", 22, 1), item("c", 3, 1))
	wantAsk(t, m, 1, pin(2), sealed(2, 2))
	wantMark(t, m, 0, 0, 20, api.OK)
	for _, c := range []api.Cell{cell("a", 0), cell("b", 10), cell("c", 0)} {
		wantKill(t, m, c, api.OK)
	}
	for range 2 {
		wantAsk(t, m, 1, scan(3, 1, 9), rows(3, row("a", 0, 4), row("b", 10, 4)))
		wantAsk(t, m, 1, scan(4, 2, 9), rows(4, row("a", 0, 4, 1), row("b", 10, 4), row("b", 20, 1), row("c", 0, 1)))
		wantAsk(t, m, 1, multi(5, 1, cell("c", 0), cell("a", 0)), rows(5, row("c", 0), row("a", 0, 4)))
		wantAsk(t, m, 1, get(6, 2, cell("a", 0)), rows(6, row("a", 0, 4, 1)))
	}
	wantStats(t, m, api.Stats{Taken: 5, Cells: 1, Now: 3})
	wantAsk(t, m, 1, scan(7, 0, 9), rows(7, row("b", 20, 1)))
}

// P1905: a Scan tells from From on, that one too, below To, Limit at most, the first ones; bounds need not be cells.
func TestScan(t *testing.T) {
	m := newModel(t, with(func(c *api.Config) { c.Views = append(c.Views, api.View{Size: 20, Slide: 20}) }))
	for _, key := range []string{"a", "aa", "b"} {
		take(t, m, item(key, 5, 1), item(key, 15, 2))
	}
	all := []api.Row{row("a", 0, 1), row("a", 10, 2), row("aa", 0, 1), row("aa", 10, 2), row("b", 0, 1), row("b", 10, 2)}
	for _, key := range []string{"a", "aa", "b"} {
		all = append(all, rowOf(api.Cell{View: 1, Key: key}, []int64{1, 2}))
	}
	now := 1
	wantSpan := func(from, to api.Cell, limit int, want ...api.Row) {
		t.Helper()
		wantAsk(t, m, 1, span(1, 0, limit, from, to), rows(1, want...))
		now++
		wantStats(t, m, api.Stats{Taken: 6, Cells: 9, Now: now})
	}
	end := api.Cell{View: 4}
	for limit := 1; limit <= 9; limit++ {
		wantSpan(api.Cell{}, end, limit, all[:limit]...)
	}
	wantSpan(api.Cell{}, end, 256, all...)
	wantSpan(all[2].Cell, all[4].Cell, 256, all[2:4]...)
	wantSpan(all[2].Cell, all[4].Cell, 1, all[2])
	wantSpan(all[3].Cell, all[3].Cell, 9)
	wantSpan(all[4].Cell, all[1].Cell, 9)
	wantSpan(cell("a", 1), cell("b", 1), 9, all[1:5]...)
	wantSpan(cell("", 1<<61), cell("a", 1<<61), 9, all[:2]...)
	wantSpan(api.Cell{View: 1, Start: -1 << 61}, end, 9, all[6:]...)
	wantSpan(api.Cell{View: 2}, end, 9)
	wantSpan(api.Cell{View: 4}, end, 9)
	wantSpan(api.Cell{}, api.Cell{}, 9)
	wantSpan(cell("b", 10), api.Cell{View: 1}, 9, all[5])
}

// P1905: what a Scan now seals is held by nobody behind it.
func TestScanHoldsNothing(t *testing.T) {
	m := newModel(t, small())
	take(t, m, item("a", 3, 4))
	for now := 2; now <= 6; now++ {
		wantAsk(t, m, now%3+1, scan(1, 0, 9), rows(1, row("a", 0, 4)))
		wantStats(t, m, api.Stats{Taken: 1, Cells: 1, Now: now})
		wantNotHeld(t, m, now-1, now)
		wantAsk(t, m, now%3+1, join(2, now-1), bad(2, api.ErrEpoch))
		wantAsk(t, m, now%3+1, release(2, now-1), bad(2, api.ErrEpoch))
		wantLeave(t, m, now%3+1, 0)
	}
	wantAsk(t, m, 1, pin(3), sealed(3, 6))
}

// P1905: a session pins and joins Pins epochs at most; what it lets go makes room.
func TestPins(t *testing.T) {
	for _, pins := range []int{1, 2, 64} {
		m := newModel(t, with(func(c *api.Config) { c.Pins = pins }))
		for n := 1; n <= pins; n++ {
			wantAsk(t, m, 1, pin(n), sealed(n, n))
		}
		wantAsk(t, m, 2, pin(1), sealed(1, pins+1))
		before := print(m)
		wantAsk(t, m, 1, pin(1), bad(1, api.ErrPins))
		wantAsk(t, m, 1, join(1, pins+1), bad(1, api.ErrPins))
		wantAsk(t, m, 1, join(1, pins+2), bad(1, api.ErrEpoch))
		wantAsk(t, m, 1, join(1, 1), done(1))
		wantAsk(t, m, 1, join(1, pins), done(1))
		wantPrint(t, m, before)
		wantAsk(t, m, 1, release(2, 1), done(2))
		wantAsk(t, m, 1, join(3, 1), bad(3, api.ErrEpoch))
		wantAsk(t, m, 1, join(4, pins+1), done(4))
		wantAsk(t, m, 1, pin(5), bad(5, api.ErrPins))
		wantAsk(t, m, 1, release(6, pins+1), done(6))
		wantAsk(t, m, 1, pin(7), sealed(7, pins+2))
		wantLeave(t, m, 1, pins)
	}
}

// P1905: who joins sees what the one who pinned sees; each lets go for itself.
func TestJoinAndRelease(t *testing.T) {
	m := newModel(t, with(func(c *api.Config) { c.Pins = 2 }))
	take(t, m, item("a", 3, 4))
	wantAsk(t, m, 1, pin(1), sealed(1, 1))
	take(t, m, item("a", 3, 5))
	wantAsk(t, m, 2, join(2, 1), done(2))
	wantAsk(t, m, 2, join(3, 1), done(3))
	wantAsk(t, m, 2, get(4, 1, cell("a", 0)), rows(4, row("a", 0, 4)))
	wantAsk(t, m, 3, release(5, 1), bad(5, api.ErrEpoch))
	wantAsk(t, m, 1, release(6, 1), done(6))
	wantAsk(t, m, 1, release(7, 1), bad(7, api.ErrEpoch))
	wantAsk(t, m, 1, get(8, 1, cell("a", 0)), bad(8, api.ErrEpoch))
	wantAsk(t, m, 2, get(9, 1, cell("a", 0)), rows(9, row("a", 0, 4)))
	wantAsk(t, m, 1, join(10, 1), done(10))
	wantAsk(t, m, 2, release(11, 1), done(11))
	wantAsk(t, m, 1, get(12, 1, cell("a", 0)), rows(12, row("a", 0, 4)))
	wantAsk(t, m, 1, release(13, 1), done(13))
	for session := 1; session <= 3; session++ {
		wantAsk(t, m, session, join(14, 1), bad(14, api.ErrEpoch))
		wantAsk(t, m, session, release(14, 1), bad(14, api.ErrEpoch))
		wantAsk(t, m, session, join(14, 1<<40), bad(14, api.ErrEpoch))
	}
	wantStats(t, m, api.Stats{Taken: 2, Cells: 1, Now: 2})
}

// P1905, P1907: RStats is answered what Stats tells.
func TestStats(t *testing.T) {
	m := newModel(t, small())
	wantAsk(t, m, 1, stats(1), counts(1, api.Stats{Now: 1}))
	take(t, m, item("a", 3, math.MaxInt64), item("b", 3, 1), item("b", 3, 1))
	wantEvent(t, m, item("a", 3, 1), false, api.FOverflow, api.OK)
	wantEvent(t, m, item("b", 3, 1), true, api.FFull, api.OK)
	wantEvent(t, m, item("b", 3, 1), true, api.FFull, api.OK)
	wantMark(t, m, 0, 0, 9, api.OK)
	wantEvent(t, m, item("b", -1, 1), false, api.FLate, api.OK)
	ask(t, m, 2, pin(1))
	want := api.Stats{Taken: 3, Late: 1, Overflow: 1, Full: 2, Cells: 2, Now: 2}
	wantStats(t, m, want)
	wantAsk(t, m, 64, stats(2), counts(2, want))
	wantMark(t, m, 0, 0, 10, api.OK)
	// What is due is there still.
	wantAsk(t, m, 1, stats(3), counts(3, want))
	wantKill(t, m, cell("a", 0), api.OK)
	want.Cells = 1
	wantAsk(t, m, 1, stats(4), counts(4, want))
}

// P1906: who leaves holds nothing any more; what others hold they hold; of no session it is 0.
func TestLeave(t *testing.T) {
	m := newModel(t, with(func(c *api.Config) { c.Pins = 3 }))
	take(t, m, item("a", 3, 4))
	wantAsk(t, m, 1, pin(1), sealed(1, 1))
	wantAsk(t, m, 1, pin(2), sealed(2, 2))
	wantAsk(t, m, 64, join(3, 2), done(3))
	wantAsk(t, m, 64, pin(4), sealed(4, 3))
	before := print(m)
	for _, session := range []int{math.MinInt, -1, 0, 2, 63, 65, math.MaxInt} {
		wantLeave(t, m, session, 0)
	}
	wantPrint(t, m, before)
	wantLeave(t, m, 1, 2)
	wantLeave(t, m, 1, 0)
	wantNotHeld(t, m, 1)
	wantAt(t, m, 2, row("a", 0, 4))
	wantAsk(t, m, 1, get(5, 2, cell("a", 0)), bad(5, api.ErrEpoch))
	wantAsk(t, m, 64, get(6, 2, cell("a", 0)), rows(6, row("a", 0, 4)))
	// Who left may be asked for again.
	wantAsk(t, m, 1, join(7, 2), done(7))
	wantLeave(t, m, 64, 2)
	wantAt(t, m, 2, row("a", 0, 4))
	wantLeave(t, m, 1, 1)
	wantNotHeld(t, m, 1, 2, 3)
	wantStats(t, m, api.Stats{Taken: 1, Cells: 1, Now: 4})
}
