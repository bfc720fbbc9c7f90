package codec_test

import (
	"math"
	"testing"

	"spate/api"
	"spate/codec"
)

// A spoiling makes a right one wrong; those of a list stand in the order in which the promise names their errors.
type spoiling[T any] struct {
	name string
	want api.Errno
	do   func(*T)
}

// checkSpoilings tries each one, and each two: the error is that of the one that is named first (P6).
func checkSpoilings[T any](t *testing.T, right func() T, check func(T) api.Errno, encode func(T) ([]byte, api.Errno), list []spoiling[T]) {
	t.Helper()
	if e := check(right()); e != api.OK {
		t.Fatalf("%+v: %v; want none", right(), e)
	}
	for i, first := range list {
		for _, second := range list[i:] {
			x := right()
			second.do(&x) // the first one comes last, so that it holds
			first.do(&x)
			if e := check(x); e != first.want {
				t.Errorf("%s, %s: %v; want %v", first.name, second.name, e, first.want)
			}
			if b, e := encode(x); e != first.want || len(b) != 0 {
				t.Errorf("%s, %s: Encode: %v, %v; want %v", first.name, second.name, b, e, first.want)
			}
		}
	}
}

func kindsOf[T any](set func(*T, int), wrong ...int) []spoiling[T] {
	var list []spoiling[T]
	for _, n := range wrong {
		list = append(list, spoiling[T]{"Kind", api.ErrKind, func(x *T) { set(x, n) }})
	}
	return list
}

// numbers spoils a number by each of those.
func numbers[T any](name string, want api.Errno, field func(*T) *int, wrong ...int) []spoiling[T] {
	var list []spoiling[T]
	for _, n := range wrong {
		list = append(list, spoiling[T]{name, want, func(x *T) { *field(x) = n }})
	}
	return list
}

// places spoils a cell, or a bound; where there is no cell any more, it does nothing.
func places[T any](cell func(*T) *api.Cell, mostView int, bound bool) []spoiling[T] {
	var list []spoiling[T]
	add := func(name string, want api.Errno, do func(*api.Cell)) {
		list = append(list, spoiling[T]{name, want, func(x *T) {
			if c := cell(x); c != nil {
				do(c)
			}
		}})
	}
	for _, n := range []int{-1, mostView + 1, math.MinInt, math.MaxInt} {
		add("View", api.ErrView, func(c *api.Cell) { c.View = n })
	}
	if !bound {
		add("no Key", api.ErrKey, func(c *api.Cell) { c.Key = "" })
	}
	add("long Key", api.ErrKey, func(c *api.Cell) { c.Key = overKey })
	for _, n := range []int64{-overStart, overStart, math.MinInt64, math.MaxInt64} {
		add("Start", api.ErrTime, func(c *api.Cell) { c.Start = n })
	}
	return list
}

func cellOf(i int) func(*api.Request) *api.Cell {
	return func(q *api.Request) *api.Cell {
		if i >= len(q.Cells) {
			return nil
		}
		return &q.Cells[i]
	}
}

func all[T any](lists ...[]spoiling[T]) []spoiling[T] {
	var out []spoiling[T]
	for _, l := range lists {
		out = append(out, l...)
	}
	return out
}

// heads spoils Kind and Id of a request.
func heads() []spoiling[api.Request] {
	return all(
		kindsOf(func(q *api.Request, n int) { q.Kind = n }, 0, 8, 9, -1, math.MinInt, math.MaxInt),
		numbers("Id", api.ErrField, func(q *api.Request) *int { return &q.Id }, -1, overEpoch, math.MinInt, math.MaxInt),
	)
}

func epochs(wrong ...int) []spoiling[api.Request] {
	wrong = append(wrong, -1, overEpoch, math.MinInt, math.MaxInt)
	return numbers("Epoch", api.ErrField, func(q *api.Request) *int { return &q.Epoch }, wrong...)
}

// unused: fields that are not named for the kind.
func unusedEpoch() []spoiling[api.Request] {
	return numbers("an Epoch", api.ErrField, func(q *api.Request) *int { return &q.Epoch }, 1, -1, api.MaxEpoch)
}

func unusedCells() []spoiling[api.Request] {
	return []spoiling[api.Request]{
		{"a cell", api.ErrField, func(q *api.Request) { q.Cells = []api.Cell{k} }},
		{"an empty cell", api.ErrField, func(q *api.Request) { q.Cells = make([]api.Cell, 1) }},
		{"17 cells", api.ErrField, func(q *api.Request) { q.Cells = make([]api.Cell, 17) }},
	}
}

func unusedRange() []spoiling[api.Request] {
	return []spoiling[api.Request]{
		{"a From", api.ErrField, func(q *api.Request) { q.From.View = 1 }},
		{"a From", api.ErrField, func(q *api.Request) { q.From.Key = "k" }},
		{"a From", api.ErrField, func(q *api.Request) { q.From.Start = -1 }},
		{"a To", api.ErrField, func(q *api.Request) { q.To.View = 9 }},
		{"a To", api.ErrField, func(q *api.Request) { q.To.Key = overKey }},
		{"a To", api.ErrField, func(q *api.Request) { q.To.Start = math.MaxInt64 }},
		{"a Limit", api.ErrField, func(q *api.Request) { q.Limit = 1 }},
		{"a Limit", api.ErrField, func(q *api.Request) { q.Limit = -1 }},
	}
}

func cellsSpoilt(name string, want api.Errno, n int) []spoiling[api.Request] {
	return []spoiling[api.Request]{{name, want, func(q *api.Request) {
		for len(q.Cells) < n {
			q.Cells = append(q.Cells, k)
		}
		q.Cells = q.Cells[:n]
	}}}
}

// P201
func TestCheckGet(t *testing.T) {
	right := func() api.Request {
		return api.Request{Kind: api.RGet, Id: 1, Epoch: 2, Cells: []api.Cell{k}}
	}
	checkSpoilings(t, right, codec.CheckRequest, codec.EncodeRequest, all(
		heads(), unusedRange(), epochs(),
		cellsSpoilt("no cell", api.ErrField, 0), cellsSpoilt("two cells", api.ErrField, 2), cellsSpoilt("17 cells", api.ErrField, 17),
		places(cellOf(0), 3, false),
	))
}

func TestCheckMulti(t *testing.T) {
	right := func() api.Request {
		return api.Request{Kind: api.RMulti, Id: 1, Epoch: 2, Cells: []api.Cell{k, k, k}}
	}
	checkSpoilings(t, right, codec.CheckRequest, codec.EncodeRequest, all(
		heads(), unusedRange(), epochs(),
		cellsSpoilt("no cells", api.ErrField, 0), cellsSpoilt("17 cells", api.ErrMany, 17), cellsSpoilt("1000 cells", api.ErrMany, 1000),
		places(cellOf(0), 3, false), places(cellOf(1), 3, false), places(cellOf(2), 3, false),
	))
}

func TestCheckScan(t *testing.T) {
	right := func() api.Request {
		return api.Request{Kind: api.RScan, Id: 1, Epoch: 2, From: k, To: k, Limit: 3}
	}
	checkSpoilings(t, right, codec.CheckRequest, codec.EncodeRequest, all(
		heads(), unusedCells(), epochs(),
		places(func(q *api.Request) *api.Cell { return &q.From }, 4, true),
		places(func(q *api.Request) *api.Cell { return &q.To }, 4, true),
		numbers("Limit", api.ErrMany, func(q *api.Request) *int { return &q.Limit }, 0, -1, api.MaxRows+1, math.MinInt, math.MaxInt),
	))
}

func TestCheckEpochAlone(t *testing.T) {
	for _, kind := range []int{api.RJoin, api.RRelease} {
		right := func() api.Request { return api.Request{Kind: kind, Id: 1, Epoch: 2} }
		checkSpoilings(t, right, codec.CheckRequest, codec.EncodeRequest, all(
			heads(), unusedCells(), unusedRange(), epochs(0),
		))
	}
}

func TestCheckIdAlone(t *testing.T) {
	for _, kind := range []int{api.RPin, api.RStats} {
		right := func() api.Request { return api.Request{Kind: kind, Id: 1} }
		checkSpoilings(t, right, codec.CheckRequest, codec.EncodeRequest, all(
			heads(), unusedEpoch(), unusedCells(), unusedRange(),
		))
	}
}

// P201, P202: the edges that may be.
func TestCheckRight(t *testing.T) {
	for _, q := range rightRequests() {
		if e := codec.CheckRequest(q); e != api.OK {
			t.Errorf("%+v: %v", q, e)
		}
	}
	for _, r := range rightResponses() {
		if e := codec.CheckResponse(r); e != api.OK {
			t.Errorf("%+v: %v", r, e)
		}
	}
	for n := 1; n <= api.MaxCells; n++ {
		q := api.Request{Kind: api.RMulti}
		for range n {
			q.Cells = append(q.Cells, k)
		}
		if e := codec.CheckRequest(q); e != api.OK {
			t.Errorf("%d cells: %v", n, e)
		}
	}
}

// answerHeads spoils Kind and Id of a response.
func answerHeads() []spoiling[api.Response] {
	return all(
		kindsOf(func(r *api.Response, n int) { r.Kind = n }, 0, 6, 7, -1, math.MinInt, math.MaxInt),
		numbers("Id", api.ErrField, func(r *api.Response) *int { return &r.Id }, -1, overEpoch, math.MinInt, math.MaxInt),
	)
}

func unusedErr() []spoiling[api.Response] {
	return []spoiling[api.Response]{
		{"an Err", api.ErrField, func(r *api.Response) { r.Err = 1 }},
		{"an Err", api.ErrField, func(r *api.Response) { r.Err = -1 }},
	}
}

func unusedAnswerEpoch() []spoiling[api.Response] {
	return numbers("an Epoch", api.ErrField, func(r *api.Response) *int { return &r.Epoch }, 1, -1)
}

func unusedRows() []spoiling[api.Response] {
	return []spoiling[api.Response]{
		{"a row", api.ErrField, func(r *api.Response) { r.Rows = []api.Row{someRow} }},
		{"an empty row", api.ErrField, func(r *api.Response) { r.Rows = make([]api.Row, 1) }},
		{"257 rows", api.ErrField, func(r *api.Response) { r.Rows = make([]api.Row, 257) }},
	}
}

// sixOf tells the six, each by its name.
func sixOf(r *api.Response) []*int {
	s := &r.Stats
	return []*int{&s.Taken, &s.Late, &s.Overflow, &s.Full, &s.Cells, &s.Now}
}

func statsSpoilt(wrong ...int) []spoiling[api.Response] {
	var list []spoiling[api.Response]
	for i := range 6 {
		list = append(list, numbers("Stats", api.ErrField, func(r *api.Response) *int { return sixOf(r)[i] }, wrong...)...)
	}
	return list
}

func aggs(i int) []spoiling[api.Response] {
	var list []spoiling[api.Response]
	for _, a := range []api.Agg{
		{Count: -1},
		{Count: math.MinInt64, Sum: 1, Min: 1, Max: 1},
		{Sum: 1},
		{Sum: -1},
		{Min: -1},
		{Max: 1},
		{Min: 1, Max: 1},
		{Count: 1, Min: 2, Max: 1},
		{Count: 5, Min: math.MaxInt64, Max: math.MinInt64},
	} {
		list = append(list, spoiling[api.Response]{"Agg", api.ErrField, func(r *api.Response) { r.Rows[i].Agg = a }})
	}
	return list
}

// P202
func TestCheckRows(t *testing.T) {
	right := func() api.Response {
		return api.Response{Kind: api.SRows, Id: 1, Rows: []api.Row{someRow, leastRow, someRow}}
	}
	rowCell := func(i int) func(*api.Response) *api.Cell {
		return func(r *api.Response) *api.Cell { return &r.Rows[i].Cell }
	}
	many := spoiling[api.Response]{"257 rows", api.ErrMany, func(r *api.Response) {
		for len(r.Rows) < 257 {
			r.Rows = append(r.Rows, someRow)
		}
	}}
	checkSpoilings(t, right, codec.CheckResponse, codec.EncodeResponse, all(
		answerHeads(), unusedErr(), unusedAnswerEpoch(), statsSpoilt(1, -1),
		[]spoiling[api.Response]{many},
		places(rowCell(0), 3, false), aggs(0),
		places(rowCell(1), 3, false), aggs(1),
		places(rowCell(2), 3, false), aggs(2),
	))
}

func TestCheckEpochAnswer(t *testing.T) {
	right := func() api.Response { return api.Response{Kind: api.SEpoch, Id: 1, Epoch: 2} }
	checkSpoilings(t, right, codec.CheckResponse, codec.EncodeResponse, all(
		answerHeads(), unusedErr(), unusedRows(), statsSpoilt(1, -1),
		numbers("Epoch", api.ErrField, func(r *api.Response) *int { return &r.Epoch }, 0, -1, overEpoch, math.MinInt, math.MaxInt),
	))
}

func TestCheckDone(t *testing.T) {
	right := func() api.Response { return api.Response{Kind: api.SDone, Id: 1} }
	checkSpoilings(t, right, codec.CheckResponse, codec.EncodeResponse, all(
		answerHeads(), unusedErr(), unusedAnswerEpoch(), unusedRows(), statsSpoilt(1, -1),
	))
}

func TestCheckStats(t *testing.T) {
	right := func() api.Response { return api.Response{Kind: api.SStats, Id: 1, Stats: api.Stats{Taken: 3}} }
	checkSpoilings(t, right, codec.CheckResponse, codec.EncodeResponse, all(
		answerHeads(), unusedErr(), unusedAnswerEpoch(), unusedRows(),
		statsSpoilt(-1, overEpoch, math.MinInt, math.MaxInt),
	))
}

func TestCheckError(t *testing.T) {
	right := func() api.Response { return api.Response{Kind: api.SError, Id: 1, Err: 35} }
	list := all(answerHeads(), unusedAnswerEpoch(), unusedRows(), statsSpoilt(1, -1))
	for _, e := range []api.Errno{0, -1, 256, math.MinInt, math.MaxInt} {
		list = append(list, spoiling[api.Response]{"Err", api.ErrField, func(r *api.Response) { r.Err = e }})
	}
	checkSpoilings(t, right, codec.CheckResponse, codec.EncodeResponse, list)
	for e := api.Errno(1); e <= 255; e++ {
		r := right()
		r.Err = e
		if got := codec.CheckResponse(r); got != api.OK {
			t.Errorf("Err %d: %v", int(e), got)
		}
	}
}
