package sess_test

import (
	"bytes"
	"encoding/binary"
	"fmt"
	"math/rand/v2"
	"strings"
	"testing"

	"spate/api"
	"spate/codec"
	"spate/sess"
	"spate/wire"
)

var (
	k       = api.Cell{Key: "k", Start: -2}
	longKey = strings.Repeat("x", api.MaxKey)
)

// told is what one Next tells: a request, an error, or neither.
type told struct {
	q     api.Request
	there bool
	errno api.Errno
	at    int
}

func (a told) same(b told) bool {
	return codec.SameRequest(a.q, b.q) && a.there == b.there && a.errno == b.errno && a.at == b.at
}

// plain is the likeness of a session: all bytes that it ever got, and how far they are told. It has no note of being broken: it stands still ahead of the frame that is none, and finds it again.
type plain struct {
	most      int
	row       []byte
	at, asked int
}

func (p *plain) feed(b []byte) { p.row = append(p.row, b...) }

func (p *plain) next() told {
	left := p.row[p.at:]
	if len(left) < 4 {
		return told{}
	}
	n := binary.BigEndian.Uint32(left)
	if n == 0 || uint64(n) > uint64(p.most) {
		return told{errno: api.ErrFrame}
	}
	if uint64(len(left)) < 4+uint64(n) {
		return told{}
	}
	q, err := codec.DecodeRequest(left[4 : 4+n])
	if err != nil {
		fault := err.(*wire.Error)
		return told{errno: fault.Errno, at: fault.At}
	}
	p.at += 4 + int(n)
	p.asked++
	return told{q: q, there: true}
}

// all tells what each Next tells, up to the first one that tells no request.
func (p *plain) all() []told { return untilNothing(p.next) }

func untilNothing(next func() told) []told {
	var list []told
	for {
		one := next()
		list = append(list, one)
		if !one.there {
			return list
		}
	}
}

func newSess(t *testing.T, frame int) *sess.Sess {
	t.Helper()
	s, errno := sess.New(frame)
	if s == nil || errno != api.OK {
		t.Fatalf("New(%d): %v, %v", frame, s, errno)
	}
	return s
}

// next asks a session, and asks that what stands beside an error or a false is zero.
func next(t *testing.T, s *sess.Sess) told {
	t.Helper()
	q, there, err := s.Next()
	one := told{q: q, there: there}
	if err != nil {
		fault, is := err.(*wire.Error)
		if !is || fault.Errno == api.OK {
			t.Fatalf("Next: the error %v is no *wire.Error", err)
		}
		one.errno, one.at = fault.Errno, fault.At
	}
	if !there && !codec.SameRequest(q, api.Request{}) || there && err != nil {
		t.Fatalf("Next: %+v, %v, %v", q, there, err)
	}
	return one
}

func allNext(t *testing.T, s *sess.Sess) []told {
	t.Helper()
	return untilNothing(func() told { return next(t, s) })
}

func wantNext(t *testing.T, s *sess.Sess, want told) {
	t.Helper()
	if got := next(t, s); !got.same(want) {
		t.Errorf("Next: %+v; want %+v", got, want)
	}
}

func wantRequest(t *testing.T, s *sess.Sess, q api.Request) {
	t.Helper()
	wantNext(t, s, told{q: q, there: true})
}

func wantNothing(t *testing.T, s *sess.Sess) {
	t.Helper()
	wantNext(t, s, told{})
}

func wantFault(t *testing.T, s *sess.Sess, errno api.Errno, at int) {
	t.Helper()
	wantNext(t, s, told{errno: errno, at: at})
}

func wantAsked(t *testing.T, s *sess.Sess, want int) {
	t.Helper()
	if got := s.Asked(); got != want {
		t.Errorf("Asked: %d; want %d", got, want)
	}
}

func wantBytes(t *testing.T, what any, got, want []byte) {
	t.Helper()
	if !bytes.Equal(got, want) {
		t.Errorf("%v: %.40v; want %.40v", what, got, want)
	}
}

// frameOf lays a length ahead of a body, by the library's means, not by package wire.
func frameOf(body ...byte) []byte {
	return append(headOf(uint32(len(body))), body...)
}

func headOf(n uint32) []byte { return binary.BigEndian.AppendUint32(nil, n) }

func bodyOf(t *testing.T, q api.Request) []byte {
	t.Helper()
	body, errno := codec.EncodeRequest(q)
	if errno != api.OK {
		t.Fatalf("%+v: %v", q, errno)
	}
	return body
}

func asked(t *testing.T, q api.Request) []byte {
	t.Helper()
	return frameOf(bodyOf(t, q)...)
}

func answered(t *testing.T, r api.Response) []byte {
	t.Helper()
	body, errno := codec.EncodeResponse(r)
	if errno != api.OK {
		t.Fatalf("%+v: %v", r, errno)
	}
	return frameOf(body...)
}

// rightRequests are some of each kind, the longest one among them.
func rightRequests() []api.Request {
	full := make([]api.Cell, api.MaxCells)
	for i := range full {
		full[i] = api.Cell{View: api.MaxViews - 1, Key: longKey, Start: api.MaxStart}
	}
	return []api.Request{
		{Kind: api.RPin, Id: 7},
		{Kind: api.RStats},
		{Kind: api.RGet, Id: 1, Cells: []api.Cell{k}},
		{Kind: api.RGet, Epoch: 300, Cells: full[:1]},
		{Kind: api.RMulti, Id: 300, Epoch: 2, Cells: []api.Cell{{View: 3, Key: "ab"}, k, k}},
		{Kind: api.RMulti, Id: api.MaxEpoch, Epoch: api.MaxEpoch, Cells: full},
		{Kind: api.RScan, Id: 9, Epoch: 4, From: k, To: api.Cell{View: 2, Key: "m", Start: 70}, Limit: 5},
		{Kind: api.RScan, To: api.Cell{View: api.MaxViews}, Limit: api.MaxRows},
		{Kind: api.RJoin, Id: 128, Epoch: api.MaxEpoch},
		{Kind: api.RRelease, Id: 3, Epoch: 17},
	}
}

// rightResponses are some of each kind, the longest one among them.
func rightResponses() []api.Response {
	full := make([]api.Row, api.MaxRows)
	for i := range full {
		full[i].Cell = api.Cell{View: api.MaxViews - 1, Key: longKey, Start: api.MaxStart}
		full[i].Agg = api.Agg{Count: 1<<63 - 1, Sum: -1 << 63, Min: -1 << 63, Max: 1<<63 - 1}
	}
	high := api.MaxEpoch
	return []api.Response{
		{Kind: api.SRows, Id: 5},
		{Kind: api.SRows, Rows: []api.Row{{Cell: k, Agg: api.Agg{Count: 2, Sum: -1, Min: -3, Max: 2}}, {Cell: k}}},
		{Kind: api.SRows, Id: high, Rows: full},
		{Kind: api.SEpoch, Id: 3, Epoch: 300},
		{Kind: api.SEpoch, Epoch: high},
		{Kind: api.SDone, Id: 200},
		{Kind: api.SStats, Id: 1, Stats: api.Stats{Taken: 1, Late: 2, Overflow: 3, Full: 4, Cells: 5, Now: 6}},
		{Kind: api.SStats, Stats: api.Stats{Taken: high, Late: high, Overflow: high, Full: high, Cells: high, Now: high}},
		{Kind: api.SError, Id: 4, Err: api.ErrBusy},
		{Kind: api.SError, Err: 255},
	}
}

// anyRequest is a right one by chance, mostly a short one.
func anyRequest(r *rand.Rand) api.Request {
	q := api.Request{Kind: 1 + r.IntN(api.RStats), Id: r.IntN(300)}
	switch q.Kind {
	case api.RGet:
		q.Epoch, q.Cells = r.IntN(3), []api.Cell{anyCell(r)}
	case api.RMulti:
		for range 1 + r.IntN(4) {
			q.Cells = append(q.Cells, anyCell(r))
		}
	case api.RScan:
		q.Epoch, q.From, q.To, q.Limit = r.IntN(3), anyCell(r), anyCell(r), 1+r.IntN(api.MaxRows)
	case api.RJoin, api.RRelease:
		q.Epoch = 1 + r.IntN(300)
	}
	return q
}

func anyCell(r *rand.Rand) api.Cell {
	return api.Cell{View: r.IntN(api.MaxViews), Key: "key"[:1+r.IntN(3)], Start: int64(r.IntN(200) - 100)}
}

// anyRow is what a client may send: right requests' frames, and mostly, somewhere among them, something that is none.
func anyRow(t *testing.T, r *rand.Rand, frame int) []byte {
	var row []byte
	for range r.IntN(6) {
		if body := bodyOf(t, anyRequest(r)); len(body) <= frame {
			row = append(row, frameOf(body...)...)
		}
	}
	row = append(row, anyWrong(t, r, frame)...)
	for range r.IntN(3) {
		row = append(row, asked(t, anyRequest(r))...)
	}
	return row
}

func anyWrong(t *testing.T, r *rand.Rand, frame int) []byte {
	switch r.IntN(7) {
	case 0:
		return frameOf()
	case 1:
		return headOf(uint32(frame + 1 + r.IntN(3)))
	case 2:
		return headOf(r.Uint32())
	case 3:
		return frameOf(anyBytes(r, 9)...)
	case 4:
		body := bodyOf(t, anyRequest(r))
		body[r.IntN(len(body))] ^= 1 << r.IntN(8)
		return frameOf(body...)
	case 5:
		row := asked(t, anyRequest(r))
		return row[:r.IntN(len(row))]
	}
	return nil
}

// anyBytes are few bytes, or none, by chance.
func anyBytes(r *rand.Rand, most int) []byte {
	b := make([]byte, r.IntN(most+1))
	for i := range b {
		b[i] = byte(r.IntN(256))
	}
	return b
}

// cut cuts a row into pieces by chance, empty ones among them.
func cut(r *rand.Rand, row []byte, most int) [][]byte {
	var pieces [][]byte
	for len(row) > 0 {
		n := min(r.IntN(most+1), len(row))
		pieces = append(pieces, row[:n])
		row = row[n:]
	}
	return append(pieces, nil)
}

// spoil writes over a list and its spare room.
func spoil(b []byte) {
	b = b[:cap(b)]
	for i := range b {
		b[i] = 0xEE
	}
}

// kindsOfWrong are bytes that are no right request's frame, with the fault that they are within a frame of 16.
func kindsOfWrong() []struct {
	row   []byte
	errno api.Errno
	at    int
} {
	return []struct {
		row   []byte
		errno api.Errno
		at    int
	}{
		{headOf(0), api.ErrFrame, 0},
		{headOf(17), api.ErrFrame, 0},
		{headOf(255), api.ErrFrame, 0},
		{headOf(256 + 2), api.ErrFrame, 0},
		{headOf(1<<16 + 2), api.ErrFrame, 0},
		{headOf(1<<24 + 2), api.ErrFrame, 0},
		{headOf(1<<31 + 2), api.ErrFrame, 0},
		{headOf(1<<32 - 1), api.ErrFrame, 0},
		{append(headOf(17), make([]byte, 17)...), api.ErrFrame, 0},
		{frameOf(4), api.ErrCut, 1},
		{frameOf(5, 1), api.ErrCut, 2},
		{frameOf(1, 1, 0, 0, 2, 'a'), api.ErrCut, 6},
		{frameOf(128), api.ErrCut, 1},
		{frameOf(132, 0, 7), api.ErrForm, 0},
		{frameOf(4, 129, 0), api.ErrForm, 1},
		{frameOf(4, 7, 0), api.ErrTail, 2},
		{frameOf(5, 1, 2, 3, 4), api.ErrTail, 3},
		{frameOf(9, 0), api.ErrKind, 0},
		{frameOf(0, 0), api.ErrKind, 0},
		{frameOf(8), api.ErrKind, 0},
		{frameOf(5, 1, 0), api.ErrField, 0},
		{frameOf(1, 1, 0, 0, 33), api.ErrField, 4},
		{frameOf(2, 1, 0, 0), api.ErrField, 0},
		{frameOf(2, 1, 0, 17), api.ErrMany, 3},
		{frameOf(1, 1, 0, 4, 1, 'a', 0), api.ErrView, 0},
		{frameOf(1, 1, 0, 0, 0, 0), api.ErrKey, 0},
		{frameOf(1, 1, 0, 0, 1, 'a', 130, 128, 128, 128, 128, 128, 128, 128, 64), api.ErrTime, 0},
	}
}

// text tells locks shortly: their numbers, those that are not shared with a mark.
func text(locks []api.Lock) string {
	var list []string
	for _, l := range locks {
		if l.Shared {
			list = append(list, fmt.Sprint(l.N))
		} else {
			list = append(list, fmt.Sprint(l.N, "!"))
		}
	}
	return strings.Join(list, " ")
}
