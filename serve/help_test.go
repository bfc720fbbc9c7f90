package serve_test

import (
	"bytes"
	"fmt"
	"math/big"
	"slices"
	"testing"

	"spate/api"
	"spate/codec"
	"spate/serve"
	"spate/wire"
)

// small is the configuration of the chapter's examples.
func small() api.Config {
	return api.Config{
		Views:   []api.View{{Size: 10, Slide: 10}},
		Sources: 1, Operators: 1, Shards: 1,
		Slots: 8, Box: 2, Admit: 2, Pins: 2, Chunk: 2, Frame: 64, In: 64, Out: 256,
	}
}

func with(change func(*api.Config)) api.Config {
	c := small()
	change(&c)
	return c
}

// roomy has room for all that a test asks for.
func roomy() api.Config {
	return with(func(c *api.Config) {
		c.Slots, c.Box, c.Admit, c.Pins, c.Chunk, c.Frame, c.In, c.Out = 1<<12, 64, 64, 64, 64, 1<<12, 1<<17, 1<<17
	})
}

func newServer(t *testing.T, c api.Config) *serve.Server {
	t.Helper()
	s, errno := serve.New(c)
	if s == nil || errno != api.OK {
		t.Fatalf("New(%+v): %v, %v", c, s, errno)
	}
	return s
}

// The events, by what their kinds use.
func feed(source int, key string, time, value int64) api.Event {
	return api.Event{Kind: api.EFeed, A: source, Key: key, Time: time, Value: value}
}

func mark(source int, time int64) api.Event {
	return api.Event{Kind: api.EMark, A: source, Time: time}
}

func open(c int) api.Event { return api.Event{Kind: api.EOpen, A: c} }

func send(c int, b []byte) api.Event { return api.Event{Kind: api.ESend, A: c, Data: b} }

func bring(c, n int) api.Event { return api.Event{Kind: api.EBring, A: c, N: n} }

func fetch(c, n int) api.Event { return api.Event{Kind: api.EFetch, A: c, N: n} }

func cut(c int) api.Event { return api.Event{Kind: api.ECut, A: c} }

func stop() api.Event { return api.Event{Kind: api.EStop} }

func pick(n int) api.Event { return api.Event{Kind: api.EPick, N: n} }

func do(t *testing.T, s *serve.Server, events ...api.Event) {
	t.Helper()
	for _, e := range events {
		if errno := s.Do(e); errno != api.OK {
			t.Fatalf("Do(%+v): %v", e, errno)
		}
	}
}

func wantErrno(t *testing.T, s *serve.Server, e api.Event, want api.Errno) {
	t.Helper()
	if errno := s.Do(e); errno != want {
		t.Errorf("Do(%.80v): %v; want %v", e, errno, want)
	}
}

// settle does rounds till nothing is left to do.
func settle(t *testing.T, s *serve.Server) {
	t.Helper()
	for range 1 << 11 {
		if s.Idle() {
			return
		}
		s.Round()
	}
	t.Fatalf("it does not come to rest: %v", s.States())
}

// resting is a new server with these connections, whose tasks wait all.
func resting(t *testing.T, c api.Config, conns ...int) *serve.Server {
	t.Helper()
	s := newServer(t, c)
	for _, n := range conns {
		do(t, s, open(n))
	}
	settle(t, s)
	return s
}

// step lets a task do so many steps; it must be ready for each.
func step(t *testing.T, s *serve.Server, task, times int) {
	t.Helper()
	for range times {
		at := 0
		states := s.States()
		if task >= len(states) || states[task] != api.TReady {
			t.Fatalf("task %d is not ready: %v", task, states)
		}
		for _, state := range states[:task] {
			if state == api.TReady {
				at++
			}
		}
		do(t, s, pick(at))
	}
}

// The requests, by what their kinds use.
func get(id, epoch int, c api.Cell) api.Request {
	return api.Request{Kind: api.RGet, Id: id, Epoch: epoch, Cells: []api.Cell{c}}
}

func multi(id, epoch int, cells ...api.Cell) api.Request {
	return api.Request{Kind: api.RMulti, Id: id, Epoch: epoch, Cells: cells}
}

func scan(id, epoch, limit int) api.Request {
	return api.Request{Kind: api.RScan, Id: id, Epoch: epoch, To: api.Cell{View: api.MaxViews}, Limit: limit}
}

func pin(id int) api.Request { return api.Request{Kind: api.RPin, Id: id} }

func join(id, epoch int) api.Request { return api.Request{Kind: api.RJoin, Id: id, Epoch: epoch} }

func release(id, epoch int) api.Request {
	return api.Request{Kind: api.RRelease, Id: id, Epoch: epoch}
}

func stats(id int) api.Request { return api.Request{Kind: api.RStats, Id: id} }

// framed are the bytes of requests, frame behind frame.
func framed(t *testing.T, requests ...api.Request) []byte {
	t.Helper()
	var all []byte
	for _, q := range requests {
		body, errno := codec.EncodeRequest(q)
		if errno != api.OK {
			t.Fatalf("%+v: %v", q, errno)
		}
		frame, _ := wire.Frame(body)
		all = append(all, frame...)
	}
	return all
}

// answered is the frame of a response.
func answered(t *testing.T, r api.Response) []byte {
	t.Helper()
	body, errno := codec.EncodeResponse(r)
	if errno != api.OK {
		t.Fatalf("%+v: %v", r, errno)
	}
	frame, _ := wire.Frame(body)
	return frame
}

// ask sends requests over a connection, and brings them to the server.
func ask(t *testing.T, s *serve.Server, c int, requests ...api.Request) {
	t.Helper()
	b := framed(t, requests...)
	do(t, s, send(c, b), bring(c, len(b)))
}

// responses takes what a client heard to responses, and asks that no byte is left.
func responses(t *testing.T, s *serve.Server, c int) []api.Response {
	t.Helper()
	b, _ := s.Heard(c)
	list, rest := responsesIn(b)
	if rest != 0 {
		t.Errorf("connection %d: %d bytes are left", c, rest)
	}
	return list
}

// responsesIn takes bytes to responses: how many bytes are left behind these.
func responsesIn(b []byte) ([]api.Response, int) {
	var list []api.Response
	for len(b) >= 4 {
		n := int(b[0])<<24 | int(b[1])<<16 | int(b[2])<<8 | int(b[3])
		if len(b) < 4+n {
			break
		}
		r, err := codec.DecodeResponse(b[4 : 4+n])
		if err != nil {
			break
		}
		list = append(list, r)
		b = b[4+n:]
	}
	return list, len(b)
}

func wantResponses(t *testing.T, s *serve.Server, c int, want ...api.Response) {
	t.Helper()
	if got := responses(t, s, c); !slices.EqualFunc(got, want, codec.SameResponse) {
		t.Errorf("connection %d heard\n%+v; want\n%+v", c, got, want)
	}
}

func wantEnd(t *testing.T, s *serve.Server, c int, want bool) {
	t.Helper()
	if _, end := s.Heard(c); end != want {
		t.Errorf("connection %d: the end %v", c, end)
	}
}

// wantStates takes the states as api numbers them: 1 ready, 2 waits for locks, 3 waits at a condition, 4 ended.
func wantStates(t *testing.T, s *serve.Server, want ...int) {
	t.Helper()
	if got := s.States(); !slices.Equal(got, want) {
		t.Errorf("States: %v; want %v", got, want)
	}
}

func wantBook(t *testing.T, s *serve.Server, now, held, live int) {
	t.Helper()
	if a, b, c := s.Book(); a != now || b != held || c != live {
		t.Errorf("Book: %d, %d, %d; want %d, %d, %d", a, b, c, now, held, live)
	}
}

func wantUnits(t *testing.T, s *serve.Server, most int, want ...int) {
	t.Helper()
	if got := s.Units(); !slices.Equal(got, want) || s.Most() != most {
		t.Errorf("Units: %v, Most: %d; want %v, %d", got, s.Most(), want, most)
	}
}

func wantMap(t *testing.T, s *serve.Server, want ...api.Row) {
	t.Helper()
	if got := s.Map(); !slices.Equal(got, want) {
		t.Errorf("Map: %v; want %v", got, want)
	}
}

func wantIdle(t *testing.T, s *serve.Server, want bool) {
	t.Helper()
	if got := s.Idle(); got != want {
		t.Errorf("Idle: %v; %v", got, s.States())
	}
}

func wantRound(t *testing.T, s *serve.Server, want int) {
	t.Helper()
	if got := s.Round(); got != want {
		t.Errorf("Round: %d; want %d; %v", got, want, s.States())
	}
}

// wantLines asks for all lines from one on.
func wantLines(t *testing.T, s *serve.Server, from int, want ...api.Line) {
	t.Helper()
	if got := s.Lines(from); !slices.EqualFunc(got, want, sameLine) {
		t.Errorf("Lines(%d):\n%s; want\n%s", from, lineTexts(got), lineTexts(want))
	}
}

// sameLine holds all fields of two lines against each other.
func sameLine(a, b api.Line) bool {
	return a.Kind == b.Kind && a.Who == b.Who && a.No == b.No && a.From == b.From && a.Fate == b.Fate &&
		a.Item == b.Item && a.Cell == b.Cell &&
		codec.SameRequest(a.Request, b.Request) && codec.SameResponse(a.Response, b.Response)
}

func lineTexts(lines []api.Line) string {
	var all []byte
	for _, l := range lines {
		all = fmt.Appendf(all, "%+v\n", l)
	}
	return string(all)
}

// The lines of a history.
func lineEvent(who, from int, e api.Event, fate int) api.Line {
	return api.Line{Kind: api.HEvent, Who: who, From: from, Item: api.Item{Key: e.Key, Time: e.Time, Value: e.Value}, Fate: fate}
}

func lineMark(who, from int, time int64) api.Line {
	return api.Line{Kind: api.HMark, Who: who, From: from, Item: api.Item{Mark: true, Time: time}}
}

func lineKill(who int, c api.Cell) api.Line { return api.Line{Kind: api.HKill, Who: who, Cell: c} }

func lineOpen(who int) api.Line { return api.Line{Kind: api.HOpen, Who: who} }

func lineAsk(who, no int, q api.Request) api.Line {
	return api.Line{Kind: api.HAsk, Who: who, No: no, Request: q}
}

func linePoint(who, no int) api.Line { return api.Line{Kind: api.HPoint, Who: who, No: no} }

func lineBusy(who, no int) api.Line {
	return api.Line{Kind: api.HPoint, Who: who, No: no, Fate: int(api.ErrBusy)}
}

func lineAnswer(who, no int, r api.Response) api.Line {
	return api.Line{Kind: api.HAnswer, Who: who, No: no, Response: r}
}

func lineBad(who int, errno api.Errno) api.Line {
	return api.Line{Kind: api.HBad, Who: who, Response: bad(0, errno)}
}

func lineLeave(who int) api.Line { return api.Line{Kind: api.HLeave, Who: who} }

// The responses.
func bad(id int, errno api.Errno) api.Response {
	return api.Response{Kind: api.SError, Id: id, Err: errno}
}

func rows(id int, list ...api.Row) api.Response {
	return api.Response{Kind: api.SRows, Id: id, Rows: list}
}

func sealed(id, epoch int) api.Response {
	return api.Response{Kind: api.SEpoch, Id: id, Epoch: epoch}
}

func done(id int) api.Response { return api.Response{Kind: api.SDone, Id: id} }

func counts(id int, x api.Stats) api.Response {
	return api.Response{Kind: api.SStats, Id: id, Stats: x}
}

// cell is one of view 0, row what it has of values.
func cell(key string, start int64) api.Cell { return api.Cell{Key: key, Start: start} }

func row(key string, start int64, values ...int64) api.Row {
	r := api.Row{Cell: cell(key, start)}
	for i, v := range values {
		if i == 0 {
			r.Min, r.Max = v, v
		}
		r.Count++
		r.Sum += v
		r.Min, r.Max = min(r.Min, v), max(r.Max, v)
	}
	return r
}

// hash is W9's.
func hash(key string) *big.Int {
	all := new(big.Int).Lsh(big.NewInt(1), 64)
	h, _ := new(big.Int).SetString("14695981039346656037", 10)
	for _, b := range []byte(key) {
		h.Xor(h, big.NewInt(int64(b)))
		h.Mod(h.Mul(h, big.NewInt(1099511628211)), all)
	}
	return h
}

func operatorOf(key string, operators int) int {
	h, _ := new(big.Int).SetString("11400714819323198485", 10)
	h.Mul(h, hash(key))
	h.Mod(h, new(big.Int).Lsh(big.NewInt(1), 64)).Rsh(h, 32)
	return int(h.Int64() % int64(operators))
}

// print is all that a server tells, as one text.
func print(s *serve.Server) string {
	now, held, live := s.Book()
	all := fmt.Appendf(nil, "%v\n%v\n%d %d %d, %v, %d, %v\n", s.States(), s.Map(), now, held, live, s.Units(), s.Most(), s.Idle())
	all = append(all, lineTexts(s.Lines(0))...)
	for c := -1; c <= api.MaxConns+1; c++ {
		b, end := s.Heard(c)
		all = fmt.Appendf(all, "%v %v;", b, end)
	}
	return string(all)
}

func wantPrint(t *testing.T, s *serve.Server, want string) {
	t.Helper()
	if got := print(s); got != want {
		t.Fatalf("it tells\n%s; want\n%s", got, want)
	}
}

func wantBytes(t *testing.T, got, want []byte) {
	t.Helper()
	if !bytes.Equal(got, want) {
		t.Errorf("%v; want %v", got, want)
	}
}
