package codec_test

import (
	"encoding/binary"
	"errors"
	"math/rand/v2"
	"strings"
	"testing"

	"spate/api"
	"spate/codec"
	"spate/wire"
)

const (
	overEpoch = api.MaxEpoch + 1
	overStart = api.MaxStart + 1
)

var (
	k        = api.Cell{Key: "k", Start: -2}
	longKey  = strings.Repeat("x", api.MaxKey)
	overKey  = longKey + "x"
	leastRow = api.Row{Cell: k}
	someRow  = api.Row{Cell: k, Agg: api.Agg{Count: 2, Sum: -1, Min: -3, Max: 2}}
)

// These write the forms of chapter 1 by the library's means, not by package wire.

func num(n int) []byte { return binary.AppendUvarint(nil, uint64(n)) }

func whole(n int64) []byte { return binary.AppendVarint(nil, n) }

func text(s string) []byte { return append(num(len(s)), s...) }

func cellThings(c api.Cell) [][]byte {
	return [][]byte{num(c.View), text(c.Key), whole(c.Start)}
}

// requestThings tells the things that stand behind one another in a request's bytes (P203).
func requestThings(q api.Request) [][]byte {
	things := [][]byte{num(q.Kind), num(q.Id)}
	if q.Kind != api.RPin && q.Kind != api.RStats {
		things = append(things, num(q.Epoch))
	}
	if q.Kind == api.RMulti {
		things = append(things, num(len(q.Cells)))
	}
	for _, c := range q.Cells {
		things = append(things, cellThings(c)...)
	}
	if q.Kind == api.RScan {
		things = append(things, cellThings(q.From)...)
		things = append(things, cellThings(q.To)...)
		things = append(things, num(q.Limit))
	}
	return things
}

// responseThings tells those of a response.
func responseThings(r api.Response) [][]byte {
	things := [][]byte{num(r.Kind), num(r.Id)}
	switch r.Kind {
	case api.SRows:
		things = append(things, num(len(r.Rows)))
		for _, row := range r.Rows {
			things = append(things, cellThings(row.Cell)...)
			things = append(things, whole(row.Count), whole(row.Sum), whole(row.Min), whole(row.Max))
		}
	case api.SEpoch:
		things = append(things, num(r.Epoch))
	case api.SStats:
		s := r.Stats
		things = append(things, num(s.Taken), num(s.Late), num(s.Overflow), num(s.Full), num(s.Cells), num(s.Now))
	case api.SError:
		things = append(things, num(int(r.Err)))
	}
	return things
}

func join(things [][]byte) []byte {
	var b []byte
	for _, x := range things {
		b = append(b, x...)
	}
	return b
}

// rightRequests are one of each kind, and those at the edges that the chapter names.
func rightRequests() []api.Request {
	edge := []api.Cell{
		{View: 0, Key: "\x00", Start: -api.MaxStart},
		{View: api.MaxViews - 1, Key: longKey, Start: api.MaxStart},
	}
	full := make([]api.Cell, api.MaxCells)
	for i := range full {
		full[i] = edge[1]
	}
	return []api.Request{
		{Kind: api.RGet, Id: 1, Cells: []api.Cell{k}},
		{Kind: api.RGet, Id: api.MaxEpoch, Epoch: api.MaxEpoch, Cells: edge[:1]},
		{Kind: api.RGet, Epoch: 300, Cells: edge[1:]},
		{Kind: api.RMulti, Id: 300, Epoch: 2, Cells: []api.Cell{{View: 3, Key: "ab"}, k}},
		{Kind: api.RMulti, Cells: edge[:1]},
		{Kind: api.RMulti, Id: api.MaxEpoch, Epoch: api.MaxEpoch, Cells: full},
		{Kind: api.RScan, Limit: 1},
		{Kind: api.RScan, Id: 9, Epoch: 4, From: k, To: api.Cell{View: 2, Key: "m", Start: 70}, Limit: 5},
		{Kind: api.RScan, To: api.Cell{View: api.MaxViews}, Limit: api.MaxRows},
		{Kind: api.RScan, From: api.Cell{View: 4, Key: longKey, Start: api.MaxStart}, To: api.Cell{Start: -api.MaxStart}, Limit: 1},
		{Kind: api.RPin, Id: 7},
		{Kind: api.RPin, Cells: []api.Cell{}},
		{Kind: api.RJoin, Epoch: 1},
		{Kind: api.RJoin, Id: 128, Epoch: api.MaxEpoch},
		{Kind: api.RRelease, Id: 3, Epoch: 17},
		{Kind: api.RStats, Id: api.MaxEpoch},
	}
}

func rightResponses() []api.Response {
	far := api.Agg{Count: 1<<63 - 1, Sum: -1 << 63, Min: -1 << 63, Max: 1<<63 - 1}
	full := make([]api.Row, api.MaxRows)
	for i := range full {
		full[i] = api.Row{Cell: api.Cell{View: 3, Key: longKey, Start: api.MaxStart}, Agg: far}
	}
	high := api.MaxEpoch
	return []api.Response{
		{Kind: api.SRows, Id: 5},
		{Kind: api.SRows, Rows: []api.Row{}},
		{Kind: api.SRows, Rows: []api.Row{someRow}},
		{Kind: api.SRows, Id: api.MaxEpoch, Rows: []api.Row{leastRow, someRow, leastRow}},
		{Kind: api.SRows, Rows: []api.Row{{Cell: k, Agg: api.Agg{Count: 1, Sum: 4, Min: 4, Max: 4}}}},
		{Kind: api.SRows, Rows: full},
		{Kind: api.SEpoch, Epoch: 1},
		{Kind: api.SEpoch, Id: 2, Epoch: api.MaxEpoch},
		{Kind: api.SDone},
		{Kind: api.SDone, Id: 200},
		{Kind: api.SStats},
		{Kind: api.SStats, Id: 1, Stats: api.Stats{Taken: 1, Late: 2, Overflow: 3, Full: 4, Cells: 5, Now: 6}},
		{Kind: api.SStats, Stats: api.Stats{Taken: high, Late: high, Overflow: high, Full: high, Cells: high, Now: high}},
		{Kind: api.SError, Err: 1},
		{Kind: api.SError, Id: 4, Err: api.ErrBusy},
		{Kind: api.SError, Err: 255},
	}
}

// Right ones by chance.

func anyNumber(r *rand.Rand) int {
	if r.IntN(8) == 0 {
		return api.MaxEpoch
	}
	return int(r.Uint64N(api.MaxEpoch)) >> r.IntN(41)
}

func anyStart(r *rand.Rand) int64 {
	n := int64(r.Uint64N(api.MaxStart+1)) >> r.IntN(62)
	if r.IntN(2) == 0 {
		return -n
	}
	return n
}

func anyKey(r *rand.Rand, least int) string {
	b := make([]byte, least+r.IntN(api.MaxKey+1-least))
	for i := range b {
		b[i] = byte(r.Uint32())
	}
	return string(b)
}

func anyCell(r *rand.Rand) api.Cell {
	return api.Cell{View: r.IntN(api.MaxViews), Key: anyKey(r, 1), Start: anyStart(r)}
}

func anyBound(r *rand.Rand) api.Cell {
	return api.Cell{View: r.IntN(api.MaxViews + 1), Key: anyKey(r, 0), Start: anyStart(r)}
}

func anyRequest(r *rand.Rand) api.Request {
	q := api.Request{Kind: 1 + r.IntN(api.RStats), Id: anyNumber(r)}
	switch q.Kind {
	case api.RGet:
		q.Epoch, q.Cells = anyNumber(r), []api.Cell{anyCell(r)}
	case api.RMulti:
		q.Epoch = anyNumber(r)
		for range 1 + r.IntN(api.MaxCells) {
			q.Cells = append(q.Cells, anyCell(r))
		}
	case api.RScan:
		q.Epoch, q.From, q.To, q.Limit = anyNumber(r), anyBound(r), anyBound(r), 1+r.IntN(api.MaxRows)
	case api.RJoin, api.RRelease:
		q.Epoch = max(1, anyNumber(r))
	}
	return q
}

func anyRow(r *rand.Rand) api.Row {
	row := api.Row{Cell: anyCell(r)}
	if r.IntN(4) > 0 {
		a, b := int64(r.Uint64())>>r.IntN(64), int64(r.Uint64())>>r.IntN(64)
		row.Agg = api.Agg{Count: 1 + int64(r.Uint64()>>1)>>(1+r.IntN(62)), Sum: int64(r.Uint64()), Min: min(a, b), Max: max(a, b)}
	}
	return row
}

func anyResponse(r *rand.Rand) api.Response {
	a := api.Response{Kind: 1 + r.IntN(api.SError), Id: anyNumber(r)}
	switch a.Kind {
	case api.SRows:
		for range r.IntN(20) {
			a.Rows = append(a.Rows, anyRow(r))
		}
	case api.SEpoch:
		a.Epoch = max(1, anyNumber(r))
	case api.SStats:
		a.Stats = api.Stats{Taken: anyNumber(r), Late: anyNumber(r), Overflow: anyNumber(r), Full: anyNumber(r), Cells: anyNumber(r), Now: anyNumber(r)}
	case api.SError:
		a.Err = api.Errno(1 + r.IntN(255))
	}
	return a
}

// wantFault asks for a *wire.Error with that number and place, which errors.Is finds.
func wantFault(t *testing.T, what any, err error, e api.Errno, at int) {
	t.Helper()
	var got *wire.Error
	if !errors.As(err, &got) {
		t.Errorf("%v: error %v; want %v at %d", what, err, e, at)
		return
	}
	if got.Errno != e || got.At != at || !errors.Is(err, e) {
		t.Errorf("%v: error %v at %d; want %v at %d", what, got, got.At, e, at)
	}
	if same, is := err.(*wire.Error); !is || same != got {
		t.Errorf("%v: the error is no *wire.Error of its own", what)
	}
}

func wantRequestFault(t *testing.T, body []byte, e api.Errno, at int) {
	t.Helper()
	q, err := codec.DecodeRequest(body)
	wantFault(t, body, err, e, at)
	if q.Kind != 0 || q.Id != 0 || q.Epoch != 0 || len(q.Cells) != 0 || q.From != (api.Cell{}) || q.To != (api.Cell{}) || q.Limit != 0 {
		t.Errorf("%v: %+v beside an error", body, q)
	}
}

func wantResponseFault(t *testing.T, body []byte, e api.Errno, at int) {
	t.Helper()
	r, err := codec.DecodeResponse(body)
	wantFault(t, body, err, e, at)
	if r.Kind != 0 || r.Id != 0 || r.Err != 0 || r.Epoch != 0 || len(r.Rows) != 0 || r.Stats != (api.Stats{}) {
		t.Errorf("%v: %+v beside an error", body, r)
	}
}

func encodeRequest(t *testing.T, q api.Request) []byte {
	t.Helper()
	b, e := codec.EncodeRequest(q)
	if e != api.OK {
		t.Fatalf("%+v: %v", q, e)
	}
	return b
}

func encodeResponse(t *testing.T, r api.Response) []byte {
	t.Helper()
	b, e := codec.EncodeResponse(r)
	if e != api.OK {
		t.Fatalf("%+v: %v", r, e)
	}
	return b
}
