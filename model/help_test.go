package model_test

import (
	"fmt"
	"math/big"
	"math/rand/v2"
	"slices"
	"testing"

	"spate/api"
	"spate/codec"
	"spate/model"
)

// small is the configuration of the chapter's examples.
func small() api.Config {
	return api.Config{
		Views:   []api.View{{Size: 10, Slide: 10}},
		Sources: 1, Operators: 1, Shards: 1,
		Slots: 9, Box: 1, Admit: 1, Pins: 1, Chunk: 1, Frame: 100, In: 100, Out: 100,
	}
}

func with(change func(*api.Config)) api.Config {
	c := small()
	change(&c)
	return c
}

func newModel(t *testing.T, c api.Config) *model.Model {
	t.Helper()
	m, errno := model.New(c)
	if m == nil || errno != api.OK {
		t.Fatalf("New(%+v): %v, %v", c, m, errno)
	}
	return m
}

func item(key string, time, value int64) api.Item {
	return api.Item{Key: key, Time: time, Value: value}
}

func wantEvent(t *testing.T, m *model.Model, x api.Item, full bool, fate int, errno api.Errno) {
	t.Helper()
	if f, e := m.Event(x, full); f != fate || e != errno {
		t.Errorf("Event(%+v, %v): %d, %v; want %d, %v", x, full, f, e, fate, errno)
	}
}

// take is of events that must be taken.
func take(t *testing.T, m *model.Model, items ...api.Item) {
	t.Helper()
	for _, x := range items {
		wantEvent(t, m, x, false, api.FTaken, api.OK)
	}
}

func wantMark(t *testing.T, m *model.Model, operator, source int, time int64, errno api.Errno) {
	t.Helper()
	if e := m.Mark(operator, source, time); e != errno {
		t.Errorf("Mark(%d, %d, %d): %v; want %v", operator, source, time, e, errno)
	}
}

func wantKill(t *testing.T, m *model.Model, c api.Cell, errno api.Errno) {
	t.Helper()
	if e := m.Kill(c); e != errno {
		t.Errorf("Kill(%v): %v; want %v", c, e, errno)
	}
}

// ask is of requests that must be answered.
func ask(t *testing.T, m *model.Model, session int, q api.Request) api.Response {
	t.Helper()
	r, errno := m.Ask(session, q, api.OK)
	if errno != api.OK {
		t.Errorf("Ask(%d, %+v): %v", session, q, errno)
	}
	if e := codec.CheckResponse(r); e != api.OK {
		t.Errorf("Ask(%d, %+v): %+v may not be written: %v", session, q, r, e)
	}
	return r
}

func wantAsk(t *testing.T, m *model.Model, session int, q api.Request, want api.Response) {
	t.Helper()
	if r := ask(t, m, session, q); !codec.SameResponse(r, want) {
		t.Errorf("Ask(%d, %+v): %+v; want %+v", session, q, r, want)
	}
}

// wantRefused is of what answers no response.
func wantRefused(t *testing.T, m *model.Model, session int, q api.Request, refused, errno api.Errno) {
	t.Helper()
	if r, e := m.Ask(session, q, refused); e != errno || !codec.SameResponse(r, api.Response{}) {
		t.Errorf("Ask(%d, %+v, %v): %+v, %v; want %v", session, q, refused, r, e, errno)
	}
}

func wantMap(t *testing.T, m *model.Model, want ...api.Row) {
	t.Helper()
	if got := m.Map(); !slices.Equal(got, want) {
		t.Errorf("Map: %v; want %v", got, want)
	}
}

func wantAt(t *testing.T, m *model.Model, epoch int, want ...api.Row) {
	t.Helper()
	if got, held := m.At(epoch); !held || !slices.Equal(got, want) {
		t.Errorf("At(%d): %v, %v; want %v", epoch, got, held, want)
	}
}

func wantNotHeld(t *testing.T, m *model.Model, epochs ...int) {
	t.Helper()
	for _, epoch := range epochs {
		if got, held := m.At(epoch); held || len(got) > 0 {
			t.Errorf("At(%d): %v, %v; nobody holds it", epoch, got, held)
		}
	}
}

func wantStats(t *testing.T, m *model.Model, want api.Stats) {
	t.Helper()
	if got := m.Stats(); got != want {
		t.Errorf("Stats: %+v; want %+v", got, want)
	}
}

func wantLeave(t *testing.T, m *model.Model, session, want int) {
	t.Helper()
	if got := m.Leave(session); got != want {
		t.Errorf("Leave(%d): %d; want %d", session, got, want)
	}
}

// The requests, by what their kinds use.
func get(id, epoch int, c api.Cell) api.Request {
	return api.Request{Kind: api.RGet, Id: id, Epoch: epoch, Cells: []api.Cell{c}}
}

func multi(id, epoch int, cells ...api.Cell) api.Request {
	return api.Request{Kind: api.RMulti, Id: id, Epoch: epoch, Cells: cells}
}

func scan(id, epoch, limit int) api.Request {
	return span(id, epoch, limit, api.Cell{}, api.Cell{View: api.MaxViews})
}

func span(id, epoch, limit int, from, to api.Cell) api.Request {
	return api.Request{Kind: api.RScan, Id: id, Epoch: epoch, From: from, To: to, Limit: limit}
}

func pin(id int) api.Request { return api.Request{Kind: api.RPin, Id: id} }

func join(id, epoch int) api.Request { return api.Request{Kind: api.RJoin, Id: id, Epoch: epoch} }

func release(id, epoch int) api.Request {
	return api.Request{Kind: api.RRelease, Id: id, Epoch: epoch}
}

func stats(id int) api.Request { return api.Request{Kind: api.RStats, Id: id} }

// The responses.
func bad(id int, errno api.Errno) api.Response {
	return api.Response{Kind: api.SError, Id: id, Err: errno}
}

func rows(id int, list ...api.Row) api.Response {
	return api.Response{Kind: api.SRows, Id: id, Rows: list}
}

func sealed(id, epoch int) api.Response {
	return api.Response{Kind: api.SEpoch, Id: id, Epoch: epoch}
}

func done(id int) api.Response { return api.Response{Kind: api.SDone, Id: id} }

func counts(id int, x api.Stats) api.Response {
	return api.Response{Kind: api.SStats, Id: id, Stats: x}
}

// cell is one of view 0, row what it has of values.
func cell(key string, start int64) api.Cell { return api.Cell{Key: key, Start: start} }

func row(key string, start int64, values ...int64) api.Row { return rowOf(cell(key, start), values) }

func rowOf(c api.Cell, values []int64) api.Row {
	r := api.Row{Cell: c}
	for i, v := range values {
		if i == 0 {
			r.Min, r.Max = v, v
		}
		r.Count++
		r.Sum += v
		r.Min, r.Max = min(r.Min, v), max(r.Max, v)
	}
	return r
}

// inOrder is of rows whose keys are such as a test has found.
func inOrder(list ...api.Row) []api.Row {
	slices.SortFunc(list, func(a, b api.Row) int {
		if isBelow(a.Cell, b.Cell) {
			return -1
		}
		return 1
	})
	return list
}

// operatorOf is W9's.
func operatorOf(key string, operators int) int {
	all := new(big.Int).Lsh(big.NewInt(1), 64)
	h, _ := new(big.Int).SetString("14695981039346656037", 10)
	for _, b := range []byte(key) {
		h.Xor(h, big.NewInt(int64(b)))
		h.Mod(h.Mul(h, big.NewInt(1099511628211)), all)
	}
	spread, _ := new(big.Int).SetString("11400714819323198485", 10)
	h.Mod(h.Mul(h, spread), all).Rsh(h, 32)
	return int(h.Int64() % int64(operators))
}

// keyAt is a key of an operator, the nth one of its kind.
func keyAt(operator, operators, nth int) string {
	for n := 0; ; n++ {
		key := fmt.Sprint("k", n)
		if operatorOf(key, operators) != operator {
			continue
		}
		if nth == 0 {
			return key
		}
		nth--
	}
}

// print is all that a model tells without being changed, as one text; sessions are 1 to 4.
func print(m *model.Model) string {
	all := fmt.Appendf(nil, "%v %v\n", m.Map(), m.Stats())
	for epoch := -1; epoch <= m.Stats().Now+1; epoch++ {
		then, held := m.At(epoch)
		all = fmt.Appendf(all, "%d: %v %v", epoch, then, held)
		for session := 1; session <= 4 && epoch > 0; session++ {
			r, _ := m.Ask(session, scan(1, epoch, 256), api.OK)
			all = fmt.Appendf(all, " %+v", r)
		}
		all = append(all, '\n')
	}
	return string(all)
}

func wantPrint(t *testing.T, m *model.Model, want string) {
	t.Helper()
	if got := print(m); got != want {
		t.Fatalf("it tells\n%s; want\n%s", got, want)
	}
}

// anyConfig has few of everything.
func anyConfig(r *rand.Rand) api.Config {
	return with(func(c *api.Config) {
		c.Sources, c.Operators, c.Pins = 1+r.IntN(3), 1+r.IntN(3), 1+r.IntN(3)
		c.Views = nil
		for range 1 + r.IntN(3) {
			v := api.View{Slide: 1 + r.Int64N(10), Late: r.Int64N(8) * r.Int64N(2)}
			v.Size = 1 + r.Int64N(3*v.Slide)
			c.Views = append(c.Views, v)
		}
	})
}
