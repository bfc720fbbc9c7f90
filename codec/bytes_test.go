package codec_test

import (
	"bytes"
	"testing"

	"spate/api"
	"spate/codec"
)

// P203: the chapter's examples, and one of each kind, byte by byte.
func TestEncodeRequestBytes(t *testing.T) {
	cell := api.Cell{View: 3, Key: "ab", Start: 64}
	for _, c := range []struct {
		q    api.Request
		want []byte
	}{
		{api.Request{Kind: api.RPin, Id: 7}, []byte{4, 7}},
		{api.Request{Kind: api.RGet, Id: 1, Cells: []api.Cell{k}}, []byte{1, 1, 0, 0, 1, 'k', 3}},
		{api.Request{Kind: api.RGet, Id: 300, Epoch: 5, Cells: []api.Cell{cell}}, []byte{1, 172, 2, 5, 3, 2, 'a', 'b', 128, 1}},
		{api.Request{Kind: api.RMulti, Id: 2, Epoch: 128, Cells: []api.Cell{cell, k}}, []byte{2, 2, 128, 1, 2, 3, 2, 'a', 'b', 128, 1, 0, 1, 'k', 3}},
		{api.Request{Kind: api.RScan, Id: 2, Epoch: 3, From: k, To: api.Cell{View: 4}, Limit: 256}, []byte{3, 2, 3, 0, 1, 'k', 3, 4, 0, 0, 128, 2}},
		{api.Request{Kind: api.RJoin, Id: 2, Epoch: 3}, []byte{5, 2, 3}},
		{api.Request{Kind: api.RRelease, Id: 3, Epoch: 2}, []byte{6, 3, 2}},
		{api.Request{Kind: api.RStats}, []byte{7, 0}},
	} {
		if b := encodeRequest(t, c.q); !bytes.Equal(b, c.want) {
			t.Errorf("%+v: %v; want %v", c.q, b, c.want)
		}
	}
}

func TestEncodeResponseBytes(t *testing.T) {
	for _, c := range []struct {
		r    api.Response
		want []byte
	}{
		{api.Response{Kind: api.SRows, Id: 5}, []byte{1, 5, 0}},
		{api.Response{Kind: api.SRows, Id: 5, Rows: []api.Row{someRow, leastRow}}, []byte{1, 5, 2, 0, 1, 'k', 3, 4, 1, 5, 4, 0, 1, 'k', 3, 0, 0, 0, 0}},
		{api.Response{Kind: api.SEpoch, Id: 1, Epoch: 9}, []byte{2, 1, 9}},
		{api.Response{Kind: api.SDone, Id: 128}, []byte{3, 128, 1}},
		{api.Response{Kind: api.SStats, Stats: api.Stats{Taken: 1, Late: 2, Overflow: 3, Full: 4, Cells: 5, Now: 6}}, []byte{4, 0, 1, 2, 3, 4, 5, 6}},
		{api.Response{Kind: api.SError, Id: 2, Err: 255}, []byte{5, 2, 255, 1}},
	} {
		if b := encodeResponse(t, c.r); !bytes.Equal(b, c.want) {
			t.Errorf("%+v: %v; want %v", c.r, b, c.want)
		}
	}
}

// P203: the edges, against the chapter's words; the greatest fit.
func TestEncodeEdges(t *testing.T) {
	for _, q := range rightRequests() {
		if b, want := encodeRequest(t, q), join(requestThings(q)); !bytes.Equal(b, want) || len(b) > 800 {
			t.Errorf("%+v: %v; want %v", q, b, want)
		}
	}
	for _, r := range rightResponses() {
		if b, want := encodeResponse(t, r), join(responseThings(r)); !bytes.Equal(b, want) || len(b) > api.MaxBody {
			t.Errorf("%+v: %v; want %v", r, b, want)
		}
	}
}

// P204: the chapter's examples.
func TestDecodeExamples(t *testing.T) {
	wantRequestFault(t, nil, api.ErrCut, 0)
	wantRequestFault(t, []byte{}, api.ErrCut, 0)
	wantRequestFault(t, []byte{9, 0}, api.ErrKind, 0)
	wantRequestFault(t, []byte{4, 7, 0}, api.ErrTail, 2)
	wantRequestFault(t, []byte{5, 1, 0}, api.ErrField, 0)
	wantResponseFault(t, nil, api.ErrCut, 0)
}

// P204: a kind that is none is told ahead of all that stands behind it, and behind wire's faults of the kind itself.
func TestDecodeKinds(t *testing.T) {
	for _, rest := range [][]byte{nil, {0}, {128}, {128, 0}, {1, 2, 3, 4}} {
		for _, kind := range []int{0, 8, 9, 127, 128, api.MaxEpoch} {
			wantRequestFault(t, append(num(kind), rest...), api.ErrKind, 0)
		}
		for _, kind := range []int{0, 6, 7, 127, 128, api.MaxEpoch} {
			wantResponseFault(t, append(num(kind), rest...), api.ErrKind, 0)
		}
		over := append(num(overEpoch), rest...)
		wantRequestFault(t, over, api.ErrField, 0)
		wantResponseFault(t, over, api.ErrField, 0)
		long := append([]byte{132, 0}, rest...)
		wantRequestFault(t, long, api.ErrForm, 0)
		wantResponseFault(t, long, api.ErrForm, 0)
	}
	wantRequestFault(t, []byte{128}, api.ErrCut, 1)
	wantResponseFault(t, []byte{128, 255}, api.ErrCut, 2)
}

// What stands at a place of the bytes: a number, an int, a text, or how many things follow.
const (
	aNum = iota
	anInt
	aText
	aCount
)

// spoilThing puts each wrong thing into one place, with all right behind it; the fault is there.
func spoilThing(t *testing.T, things [][]byte, i, sort, most int, want func(*testing.T, []byte, api.Errno, int)) {
	t.Helper()
	at := len(join(things[:i]))
	put := func(wrong []byte) []byte {
		b := append(join(things[:i]), wrong...)
		return append(b, join(things[i+1:])...)
	}
	want(t, put([]byte{129, 0}), api.ErrForm, at)
	want(t, put([]byte{255, 128, 0}), api.ErrForm, at)
	want(t, put(bytes.Repeat([]byte{255}, 10)), api.ErrForm, at)
	want(t, append(join(things[:i]), 200), api.ErrCut, at+1)
	want(t, append(join(things[:i]), 200, 200), api.ErrCut, at+2)
	switch sort {
	case aNum, aCount:
		want(t, put(num(overEpoch)), api.ErrField, at)
		want(t, put(num(1<<63-1)), api.ErrField, at)
	case anInt:
		want(t, put(append(bytes.Repeat([]byte{255}, 9), 2)), api.ErrForm, at)
	case aText:
		want(t, put(text(overKey)), api.ErrField, at)
		want(t, append(join(things[:i]), num(api.MaxKey+1)...), api.ErrField, at)
		want(t, append(join(things[:i]), 2, 'a'), api.ErrCut, at+2)
		want(t, append(join(things[:i]), 32), api.ErrCut, at+1)
	}
	if sort == aCount {
		want(t, put(num(most+1)), api.ErrMany, at)
		want(t, append(join(things[:i]), num(most+1)...), api.ErrMany, at)
		want(t, put(num(api.MaxEpoch)), api.ErrMany, at)
	}
}

// P204: each thing of each kind, each of its faults, at its place.
func TestDecodeRequestFaults(t *testing.T) {
	place := []int{aNum, aText, anInt}
	cells := append(append([]int{aNum, aNum, aNum, aCount}, place...), place...)
	scan := append(append(append([]int{aNum, aNum, aNum}, place...), place...), aNum)
	far := api.Cell{View: 2, Key: "key", Start: -1000000}
	for _, c := range []struct {
		q     api.Request
		sorts []int
	}{
		{api.Request{Kind: api.RGet, Id: 1000, Epoch: 500, Cells: []api.Cell{far}}, append([]int{aNum, aNum, aNum}, place...)},
		{api.Request{Kind: api.RMulti, Id: 1000, Epoch: 500, Cells: []api.Cell{far, k}}, cells},
		{api.Request{Kind: api.RScan, Id: 1000, Epoch: 500, From: far, To: far, Limit: 200}, scan},
		{api.Request{Kind: api.RPin, Id: 1000}, []int{aNum, aNum}},
		{api.Request{Kind: api.RJoin, Id: 1000, Epoch: 500}, []int{aNum, aNum, aNum}},
		{api.Request{Kind: api.RRelease, Id: 1000, Epoch: 500}, []int{aNum, aNum, aNum}},
		{api.Request{Kind: api.RStats, Id: 1000}, []int{aNum, aNum}},
	} {
		things := requestThings(c.q)
		if len(things) != len(c.sorts) {
			t.Fatalf("%+v: %d things", c.q, len(things))
		}
		for i, sort := range c.sorts {
			spoilThing(t, things, i, sort, api.MaxCells, wantRequestFault)
		}
	}
}

func TestDecodeResponseFaults(t *testing.T) {
	row := []int{aNum, aText, anInt, anInt, anInt, anInt, anInt}
	rows := append(append([]int{aNum, aNum, aCount}, row...), row...)
	for _, c := range []struct {
		r     api.Response
		sorts []int
	}{
		{api.Response{Kind: api.SRows, Id: 1000, Rows: []api.Row{someRow, leastRow}}, rows},
		{api.Response{Kind: api.SEpoch, Id: 1000, Epoch: 500}, []int{aNum, aNum, aNum}},
		{api.Response{Kind: api.SDone, Id: 1000}, []int{aNum, aNum}},
		{api.Response{Kind: api.SStats, Id: 1000, Stats: api.Stats{Taken: 1, Late: 500}}, []int{aNum, aNum, aNum, aNum, aNum, aNum, aNum, aNum}},
		{api.Response{Kind: api.SError, Id: 1000, Err: 200}, []int{aNum, aNum, aNum}},
	} {
		things := responseThings(c.r)
		if len(things) != len(c.sorts) {
			t.Fatalf("%+v: %d things", c.r, len(things))
		}
		for i, sort := range c.sorts {
			spoilThing(t, things, i, sort, api.MaxRows, wantResponseFault)
		}
	}
}

// P204: of what is read whole, Check's error at 0; bytes behind it are told first.
func TestDecodeChecksRequests(t *testing.T) {
	over := make([]api.Cell, 2)
	over[0], over[1] = k, api.Cell{View: 0, Key: "k", Start: -overStart}
	for _, c := range []struct {
		q    api.Request
		want api.Errno
	}{
		{api.Request{Kind: api.RGet, Cells: []api.Cell{{View: 4, Key: "k"}}}, api.ErrView},
		{api.Request{Kind: api.RGet, Cells: []api.Cell{{View: api.MaxEpoch, Key: ""}}}, api.ErrView},
		{api.Request{Kind: api.RGet, Cells: []api.Cell{{Key: "", Start: overStart}}}, api.ErrKey},
		{api.Request{Kind: api.RGet, Cells: []api.Cell{{Key: "k", Start: overStart}}}, api.ErrTime},
		{api.Request{Kind: api.RMulti}, api.ErrField},
		{api.Request{Kind: api.RMulti, Cells: over}, api.ErrTime},
		{api.Request{Kind: api.RScan, From: api.Cell{View: 5}, Limit: 1}, api.ErrView},
		{api.Request{Kind: api.RScan, To: api.Cell{View: 5}}, api.ErrView},
		{api.Request{Kind: api.RScan, To: api.Cell{Start: -1 << 63}}, api.ErrTime},
		{api.Request{Kind: api.RScan}, api.ErrMany},
		{api.Request{Kind: api.RScan, Limit: 257}, api.ErrMany},
		{api.Request{Kind: api.RScan, Limit: api.MaxEpoch}, api.ErrMany},
		{api.Request{Kind: api.RJoin}, api.ErrField},
		{api.Request{Kind: api.RRelease, Id: 3}, api.ErrField},
	} {
		body := join(requestThings(c.q))
		wantRequestFault(t, body, c.want, 0)
		wantRequestFault(t, append(body, 0), api.ErrTail, len(body))
	}
}

func TestDecodeChecksResponses(t *testing.T) {
	rows := func(row api.Row) api.Response {
		return api.Response{Kind: api.SRows, Rows: []api.Row{someRow, row}}
	}
	for _, c := range []struct {
		r    api.Response
		want api.Errno
	}{
		{rows(api.Row{Cell: api.Cell{View: 4}}), api.ErrView},
		{rows(api.Row{}), api.ErrKey},
		{rows(api.Row{Cell: api.Cell{Key: "k", Start: overStart}, Agg: api.Agg{Sum: 1}}), api.ErrTime},
		{rows(api.Row{Cell: k, Agg: api.Agg{Sum: 1}}), api.ErrField},
		{rows(api.Row{Cell: k, Agg: api.Agg{Count: -1}}), api.ErrField},
		{rows(api.Row{Cell: k, Agg: api.Agg{Count: 1, Min: 1}}), api.ErrField},
		{api.Response{Kind: api.SEpoch}, api.ErrField},
		{api.Response{Kind: api.SError}, api.ErrField},
		{api.Response{Kind: api.SError, Err: 256}, api.ErrField},
		{api.Response{Kind: api.SError, Err: api.MaxEpoch}, api.ErrField},
	} {
		body := join(responseThings(c.r))
		wantResponseFault(t, body, c.want, 0)
		wantResponseFault(t, append(body, 0), api.ErrTail, len(body))
	}
}

// P205: each field tells two apart; lists count by their elements.
func TestSameRequest(t *testing.T) {
	base := func() api.Request {
		return api.Request{Kind: 1, Id: 2, Epoch: 3, Cells: []api.Cell{k, {View: 1}}, From: k, To: k, Limit: 4}
	}
	if !codec.SameRequest(base(), base()) {
		t.Error("the same twice")
	}
	none, empty := api.Request{}, api.Request{Cells: []api.Cell{}}
	if !codec.SameRequest(none, empty) || !codec.SameRequest(empty, none) {
		t.Error("no list and an empty one")
	}
	for i, do := range []func(*api.Request){
		func(q *api.Request) { q.Kind++ },
		func(q *api.Request) { q.Id++ },
		func(q *api.Request) { q.Epoch++ },
		func(q *api.Request) { q.Cells = nil },
		func(q *api.Request) { q.Cells = q.Cells[:1] },
		func(q *api.Request) { q.Cells = append(q.Cells, k) },
		func(q *api.Request) { q.Cells[0], q.Cells[1] = q.Cells[1], q.Cells[0] },
		func(q *api.Request) { q.Cells[1].View = 2 },
		func(q *api.Request) { q.Cells[1].Key = "\x00" },
		func(q *api.Request) { q.Cells[1].Start = 1 },
		func(q *api.Request) { q.From.View++ },
		func(q *api.Request) { q.From.Key = "K" },
		func(q *api.Request) { q.From.Start++ },
		func(q *api.Request) { q.To.View++ },
		func(q *api.Request) { q.To.Key = "kk" },
		func(q *api.Request) { q.To.Start++ },
		func(q *api.Request) { q.Limit++ },
	} {
		q := base()
		do(&q)
		if codec.SameRequest(base(), q) || codec.SameRequest(q, base()) || !codec.SameRequest(q, q) {
			t.Errorf("%d: %+v", i, q)
		}
	}
}

func TestSameResponse(t *testing.T) {
	base := func() api.Response {
		return api.Response{Kind: 1, Id: 2, Err: 3, Epoch: 4, Rows: []api.Row{someRow, leastRow}, Stats: api.Stats{Taken: 1}}
	}
	if !codec.SameResponse(base(), base()) {
		t.Error("the same twice")
	}
	none, empty := api.Response{}, api.Response{Rows: []api.Row{}}
	if !codec.SameResponse(none, empty) || !codec.SameResponse(empty, none) {
		t.Error("no list and an empty one")
	}
	changes := []func(*api.Response){
		func(r *api.Response) { r.Kind++ },
		func(r *api.Response) { r.Id++ },
		func(r *api.Response) { r.Err++ },
		func(r *api.Response) { r.Epoch++ },
		func(r *api.Response) { r.Rows = nil },
		func(r *api.Response) { r.Rows = r.Rows[:1] },
		func(r *api.Response) { r.Rows = append(r.Rows, leastRow) },
		func(r *api.Response) { r.Rows[0], r.Rows[1] = r.Rows[1], r.Rows[0] },
		func(r *api.Response) { r.Rows[1].View = 2 },
		func(r *api.Response) { r.Rows[1].Key = "" },
		func(r *api.Response) { r.Rows[1].Start = 1 },
		func(r *api.Response) { r.Rows[1].Count = 1 },
		func(r *api.Response) { r.Rows[1].Sum = 1 },
		func(r *api.Response) { r.Rows[1].Min = 1 },
		func(r *api.Response) { r.Rows[1].Max = 1 },
	}
	for i := range 6 {
		changes = append(changes, func(r *api.Response) { *sixOf(r)[i] += 7 })
	}
	for i, do := range changes {
		r := base()
		do(&r)
		if codec.SameResponse(base(), r) || codec.SameResponse(r, base()) || !codec.SameResponse(r, r) {
			t.Errorf("%d: %+v", i, r)
		}
	}
}
