package world_test

import (
	"fmt"
	"slices"
	"testing"

	"spate/api"
	"spate/codec"
	"spate/wire"
	"spate/world"
)

// small is the configuration of the chapter's examples.
func small() api.Config {
	return api.Config{
		Views:   []api.View{{Size: 10, Slide: 10}},
		Sources: 1, Operators: 1, Shards: 1,
		Slots: 9, Box: 1, Admit: 1, Pins: 1, Chunk: 1, Frame: 100, In: 100, Out: 100,
	}
}

func with(change func(*api.Config)) api.Config {
	c := small()
	change(&c)
	return c
}

func script(events ...api.Event) world.Script {
	return world.Script{Config: small(), Events: events}
}

// The events, by what their kinds use.
func feed(source int, key string, time, value int64) api.Event {
	return api.Event{Kind: api.EFeed, A: source, Key: key, Time: time, Value: value}
}

func mark(source int, time int64) api.Event {
	return api.Event{Kind: api.EMark, A: source, Time: time}
}

func open(c int) api.Event { return api.Event{Kind: api.EOpen, A: c} }

func send(c int, b ...byte) api.Event { return api.Event{Kind: api.ESend, A: c, Data: b} }

func bring(c, n int) api.Event { return api.Event{Kind: api.EBring, A: c, N: n} }

func fetch(c, n int) api.Event { return api.Event{Kind: api.EFetch, A: c, N: n} }

func cut(c int) api.Event { return api.Event{Kind: api.ECut, A: c} }

func stop() api.Event { return api.Event{Kind: api.EStop} }

func pick(n int) api.Event { return api.Event{Kind: api.EPick, N: n} }

// picks are so many, of the tasks that are ready one after the other.
func picks(n int) []api.Event {
	var list []api.Event
	for i := range n {
		list = append(list, pick(i))
	}
	return list
}

func join(lists ...[]api.Event) []api.Event { return slices.Concat(lists...) }

func run(t *testing.T, s world.Script) world.Told {
	t.Helper()
	w, errno := world.Run(s)
	if errno != api.OK {
		t.Fatalf("Run: %v", errno)
	}
	return w
}

func settle(t *testing.T, s world.Script, rounds int) world.Told {
	t.Helper()
	w, errno := world.Settle(s, rounds)
	if errno != api.OK {
		t.Fatalf("Settle: %v", errno)
	}
	return w
}

// enough are more rounds than a test's script needs.
const enough = 1 << 12

// rest settles a script till nothing is left to do.
func rest(t *testing.T, s world.Script) world.Told {
	t.Helper()
	w := settle(t, s, enough)
	if !w.Idle {
		t.Fatalf("it does not come to rest: %d rounds", w.Rounds)
	}
	return w
}

// The requests, by what their kinds use.
func get(id, epoch int, c api.Cell) api.Request {
	return api.Request{Kind: api.RGet, Id: id, Epoch: epoch, Cells: []api.Cell{c}}
}

func multi(id, epoch int, cells ...api.Cell) api.Request {
	return api.Request{Kind: api.RMulti, Id: id, Epoch: epoch, Cells: cells}
}

func scan(id, epoch, limit int) api.Request {
	return api.Request{Kind: api.RScan, Id: id, Epoch: epoch, To: api.Cell{View: api.MaxViews}, Limit: limit}
}

func pin(id int) api.Request { return api.Request{Kind: api.RPin, Id: id} }

func joining(id, epoch int) api.Request { return api.Request{Kind: api.RJoin, Id: id, Epoch: epoch} }

func release(id, epoch int) api.Request {
	return api.Request{Kind: api.RRelease, Id: id, Epoch: epoch}
}

func stats(id int) api.Request { return api.Request{Kind: api.RStats, Id: id} }

// framed are the bytes of requests, frame behind frame.
func framed(t *testing.T, requests ...api.Request) []byte {
	t.Helper()
	var all []byte
	for _, q := range requests {
		body, errno := codec.EncodeRequest(q)
		if errno != api.OK {
			t.Fatalf("%+v: %v", q, errno)
		}
		frame, _ := wire.Frame(body)
		all = append(all, frame...)
	}
	return all
}

// ask sends requests over a connection.
func ask(t *testing.T, c int, requests ...api.Request) api.Event {
	t.Helper()
	return send(c, framed(t, requests...)...)
}

// answered are the bytes of responses, frame behind frame.
func answered(t *testing.T, responses ...api.Response) []byte {
	t.Helper()
	var all []byte
	for _, r := range responses {
		body, errno := codec.EncodeResponse(r)
		if errno != api.OK {
			t.Fatalf("%+v: %v", r, errno)
		}
		frame, _ := wire.Frame(body)
		all = append(all, frame...)
	}
	return all
}

// The responses.
func bad(id int, errno api.Errno) api.Response {
	return api.Response{Kind: api.SError, Id: id, Err: errno}
}

func rows(id int, list ...api.Row) api.Response {
	return api.Response{Kind: api.SRows, Id: id, Rows: list}
}

func sealed(id, epoch int) api.Response {
	return api.Response{Kind: api.SEpoch, Id: id, Epoch: epoch}
}

func counts(id int, x api.Stats) api.Response {
	return api.Response{Kind: api.SStats, Id: id, Stats: x}
}

// cell is one of view 0, row what it has of values.
func cell(key string, start int64) api.Cell { return api.Cell{Key: key, Start: start} }

func row(key string, start int64, values ...int64) api.Row {
	r := api.Row{Cell: cell(key, start)}
	for i, v := range values {
		if i == 0 {
			r.Min, r.Max = v, v
		}
		r.Count++
		r.Sum += v
		r.Min, r.Max = min(r.Min, v), max(r.Max, v)
	}
	return r
}

// The lines of a history that tests ask for.
func lineEvent(e api.Event, fate int) api.Line {
	return api.Line{Kind: api.HEvent, From: e.A, Item: api.Item{Key: e.Key, Time: e.Time, Value: e.Value}, Fate: fate}
}

func lineMark(e api.Event) api.Line {
	return api.Line{Kind: api.HMark, From: e.A, Item: api.Item{Mark: true, Time: e.Time}}
}

func lineKill(c api.Cell) api.Line { return api.Line{Kind: api.HKill, Cell: c} }

func lineOpen(who int) api.Line { return api.Line{Kind: api.HOpen, Who: who} }

// sameLine holds all fields of two lines against each other.
func sameLine(a, b api.Line) bool {
	return a.Kind == b.Kind && a.Who == b.Who && a.No == b.No && a.From == b.From && a.Fate == b.Fate &&
		a.Item == b.Item && a.Cell == b.Cell &&
		codec.SameRequest(a.Request, b.Request) && codec.SameResponse(a.Response, b.Response)
}

func sameHeard(a, b world.Heard) bool {
	return slices.EqualFunc(a.Responses, b.Responses, codec.SameResponse) && a.Rest == b.Rest && a.End == b.End
}

// print is all that was told, as one text; lists without elements are all the same.
func print(w world.Told) string {
	all := fmt.Appendf(nil, "errs %d\n", w.Errs)
	for _, l := range w.Lines {
		all = fmt.Appendf(all, "%+v\n", l)
	}
	for c, h := range w.Heard {
		all = fmt.Appendf(all, "heard %d: %+v\n", c+1, h)
	}
	return string(fmt.Appendf(all, "map %v; idle %v; %d steps, %d rounds", w.Map, w.Idle, w.Steps, w.Rounds))
}

func wantTold(t *testing.T, w, want world.Told) {
	t.Helper()
	if a, b := print(w), print(want); a != b {
		t.Fatalf("told\n%s; want\n%s", a, b)
	}
}

func wantErrs(t *testing.T, w world.Told, want ...api.Errno) {
	t.Helper()
	if !slices.Equal(w.Errs, want) {
		t.Errorf("Errs: %v; want %v", w.Errs, want)
	}
}

func wantLines(t *testing.T, w world.Told, want ...api.Line) {
	t.Helper()
	if !slices.EqualFunc(w.Lines, want, sameLine) {
		t.Errorf("Lines: %+v; want %+v", w.Lines, want)
	}
}

func wantMap(t *testing.T, w world.Told, want ...api.Row) {
	t.Helper()
	if !slices.Equal(w.Map, want) {
		t.Errorf("Map: %v; want %v", w.Map, want)
	}
}

func wantHeard(t *testing.T, w world.Told, want ...world.Heard) {
	t.Helper()
	if !slices.EqualFunc(w.Heard, want, sameHeard) {
		t.Errorf("Heard: %+v; want %+v", w.Heard, want)
	}
}

// heard is what a client heard that is not at its end.
func heard(list ...api.Response) world.Heard { return world.Heard{Responses: list} }

// wantNumbers asks for what is no list.
func wantNumbers(t *testing.T, w world.Told, idle bool, steps, rounds int) {
	t.Helper()
	if w.Idle != idle || w.Steps != steps || w.Rounds != rounds {
		t.Errorf("idle %v, %d steps, %d rounds; want %v, %d, %d", w.Idle, w.Steps, w.Rounds, idle, steps, rounds)
	}
}
