package judge_test

import (
	"errors"
	"slices"
	"testing"

	"spate/api"
	"spate/codec"
	"spate/judge"
	"spate/wire"
	"spate/world"
)

// small is the configuration of the chapter's examples.
func small() api.Config {
	return api.Config{
		Views:   []api.View{{Size: 10, Slide: 10}},
		Sources: 1, Operators: 1, Shards: 1,
		Slots: 9, Box: 1, Admit: 1, Pins: 1, Chunk: 1, Frame: 100, In: 100, Out: 100,
	}
}

func with(change func(*api.Config)) api.Config {
	c := small()
	change(&c)
	return c
}

// The lines, by what their kinds use. Those of operators are of operator 0, from source 0.
func event(key string, time, value int64, fate int) api.Line {
	return api.Line{Kind: api.HEvent, Item: api.Item{Key: key, Time: time, Value: value}, Fate: fate}
}

func taken(key string, time, value int64) api.Line { return event(key, time, value, api.FTaken) }

func mark(time int64) api.Line {
	return api.Line{Kind: api.HMark, Item: api.Item{Mark: true, Time: time}}
}

func kill(key string, start int64) api.Line {
	return api.Line{Kind: api.HKill, Cell: cell(key, start)}
}

// by is a line of another operator, from another source.
func by(operator, source int, x api.Line) api.Line {
	x.Who, x.From = operator, source
	return x
}

func open(who int) api.Line { return api.Line{Kind: api.HOpen, Who: who} }

func ask(who, no int, q api.Request) api.Line {
	return api.Line{Kind: api.HAsk, Who: who, No: no, Request: q}
}

func point(who, no int) api.Line { return api.Line{Kind: api.HPoint, Who: who, No: no} }

func busy(who, no int) api.Line {
	return api.Line{Kind: api.HPoint, Who: who, No: no, Fate: int(api.ErrBusy)}
}

func answer(who, no int, r api.Response) api.Line {
	return api.Line{Kind: api.HAnswer, Who: who, No: no, Response: r}
}

func broken(who int, errno api.Errno) api.Line {
	return api.Line{Kind: api.HBad, Who: who, Response: bad(errno)}
}

func leave(who int) api.Line { return api.Line{Kind: api.HLeave, Who: who} }

// whole is a request with its point and its answer.
func whole(who, no int, q api.Request, r api.Response) []api.Line {
	return []api.Line{ask(who, no, q), point(who, no), answer(who, no, r)}
}

func lines(l ...api.Line) []api.Line { return l }

func join(lists ...[]api.Line) []api.Line { return slices.Concat(lists...) }

// opened are so many sessions.
func opened(n int) []api.Line {
	var list []api.Line
	for i := range n {
		list = append(list, open(i+1))
	}
	return list
}

// The requests; their Id is 0.
func get(epoch int, c api.Cell) api.Request {
	return api.Request{Kind: api.RGet, Epoch: epoch, Cells: []api.Cell{c}}
}

func multi(epoch int, cells ...api.Cell) api.Request {
	return api.Request{Kind: api.RMulti, Epoch: epoch, Cells: cells}
}

func scan(epoch, limit int) api.Request {
	return api.Request{Kind: api.RScan, Epoch: epoch, To: api.Cell{View: api.MaxViews}, Limit: limit}
}

func pin() api.Request { return api.Request{Kind: api.RPin} }

func joining(epoch int) api.Request { return api.Request{Kind: api.RJoin, Epoch: epoch} }

func release(epoch int) api.Request { return api.Request{Kind: api.RRelease, Epoch: epoch} }

func stats() api.Request { return api.Request{Kind: api.RStats} }

// The responses.
func bad(errno api.Errno) api.Response { return api.Response{Kind: api.SError, Err: errno} }

func rows(list ...api.Row) api.Response { return api.Response{Kind: api.SRows, Rows: list} }

func sealed(epoch int) api.Response { return api.Response{Kind: api.SEpoch, Epoch: epoch} }

func done() api.Response { return api.Response{Kind: api.SDone} }

func counts(x api.Stats) api.Response { return api.Response{Kind: api.SStats, Stats: x} }

// cell is one of view 0, row what it has of values.
func cell(key string, start int64) api.Cell { return api.Cell{Key: key, Start: start} }

func row(key string, start int64, values ...int64) api.Row { return rowOf(cell(key, start), values) }

func rowOf(c api.Cell, values []int64) api.Row {
	r := api.Row{Cell: c}
	for i, v := range values {
		if i == 0 {
			r.Min, r.Max = v, v
		}
		r.Count++
		r.Sum += v
		r.Min, r.Max = min(r.Min, v), max(r.Max, v)
	}
	return r
}

// numberOf is that of an error of Legal's: the one that errors.Is finds.
func numberOf(t *testing.T, err error) api.Errno {
	t.Helper()
	if err == nil {
		return api.OK
	}
	var errno api.Errno
	if !errors.As(err, &errno) || errno == api.OK || !errors.Is(err, errno) || err.Error() == "" {
		t.Fatalf("no number is found in %v", err)
	}
	for n := range api.Errno(60) {
		if n != errno && errors.Is(err, n) {
			t.Fatalf("%v is found in %v, too", n, err)
		}
	}
	return errno
}

func wantLegal(t *testing.T, c api.Config, l []api.Line, at int, errno api.Errno) {
	t.Helper()
	n, err := judge.Legal(c, l)
	if got := numberOf(t, err); n != at || got != errno {
		t.Errorf("Legal(%+v): %d, %v; want %d, %v", l, n, got, at, errno)
	}
}

// legal is of histories that are so to their end.
func legal(t *testing.T, c api.Config, l ...api.Line) {
	t.Helper()
	wantLegal(t, c, l, len(l), api.OK)
}

// wrong is of histories whose last line may not be there, and is the first such.
func wrong(t *testing.T, c api.Config, errno api.Errno, l ...api.Line) {
	t.Helper()
	wantLegal(t, c, l, len(l)-1, errno)
}

func wantLinear(t *testing.T, c api.Config, l []api.Line, want bool, errno api.Errno) {
	t.Helper()
	if is, e := judge.Linear(c, l); is != want || e != errno {
		t.Errorf("Linear(%+v): %v, %v; want %v, %v", l, is, e, want, errno)
	}
}

func linear(t *testing.T, c api.Config, lists ...[]api.Line) {
	t.Helper()
	wantLinear(t, c, join(lists...), true, api.OK)
}

func notLinear(t *testing.T, c api.Config, lists ...[]api.Line) {
	t.Helper()
	wantLinear(t, c, join(lists...), false, api.OK)
}

func wantOrder(t *testing.T, c api.Config, l []api.Line, errno api.Errno, want ...int) {
	t.Helper()
	if list, e := judge.Order(c, l); !slices.Equal(list, want) || e != errno {
		t.Errorf("Order(%+v): %v, %v; want %v, %v", l, list, e, want, errno)
	}
}

func wantFold(t *testing.T, c api.Config, l []api.Line, stats api.Stats, want ...api.Row) {
	t.Helper()
	list, x, errno := judge.Fold(c, l)
	if !slices.Equal(list, want) || x != stats || errno != api.OK {
		t.Errorf("Fold(%+v): %v, %+v, %v; want %v, %+v", l, list, x, errno, want, stats)
	}
}

// noFold is of histories that are not legal.
func noFold(t *testing.T, c api.Config, l []api.Line, errno api.Errno) {
	t.Helper()
	if list, x, e := judge.Fold(c, l); len(list) > 0 || x != (api.Stats{}) || e != errno {
		t.Errorf("Fold(%+v): %v, %+v, %v; want %v", l, list, x, e, errno)
	}
}

// framed are the bytes of requests, frame behind frame.
func framed(t *testing.T, requests ...api.Request) []byte {
	t.Helper()
	var all []byte
	for _, q := range requests {
		body, errno := codec.EncodeRequest(q)
		if errno != api.OK {
			t.Fatalf("%+v: %v", q, errno)
		}
		frame, _ := wire.Frame(body)
		all = append(all, frame...)
	}
	return all
}

// ran is what a script tells, with more rounds behind it than it needs, if it is to come to rest.
func ran(t *testing.T, s world.Script, rest bool) world.Told {
	t.Helper()
	rounds := 0
	if rest {
		rounds = 1 << 12
	}
	w, errno := world.Settle(s, rounds)
	if errno != api.OK || rest && !w.Idle {
		t.Fatalf("Settle: %v, %v", errno, w.Idle)
	}
	return w
}

// deep is a history like another one, with the spare room of its lists, which shares nothing with it.
func deep(l []api.Line) []api.Line {
	all := slices.Clip(slices.Clone(spare(l)))
	for i, x := range all {
		all[i].Request.Cells = slices.Clip(slices.Clone(spare(x.Request.Cells)))[:len(x.Request.Cells)]
		all[i].Response.Rows = slices.Clip(slices.Clone(spare(x.Response.Rows)))[:len(x.Response.Rows)]
	}
	return all[:len(l)]
}

// spare is a list with its spare room.
func spare[T any](l []T) []T { return l[:cap(l)] }

// sameLine holds all fields of two lines against each other.
func sameLine(a, b api.Line) bool {
	return a.Kind == b.Kind && a.Who == b.Who && a.No == b.No && a.From == b.From && a.Fate == b.Fate &&
		a.Item == b.Item && a.Cell == b.Cell &&
		codec.SameRequest(a.Request, b.Request) && codec.SameResponse(a.Response, b.Response)
}
