package sess_test

import (
	"errors"
	"fmt"
	"math"
	"testing"

	"spate/api"
	"spate/codec"
	"spate/sess"
	"spate/wire"
)

// P1704: a response of each kind, byte by byte.
func TestAnswerBytes(t *testing.T) {
	s := newSess(t, 16)
	for _, c := range []struct {
		r    api.Response
		want []byte
	}{
		{api.Response{Kind: api.SRows, Id: 5}, []byte{0, 0, 0, 3, 1, 5, 0}},
		{api.Response{Kind: api.SRows, Rows: []api.Row{{Cell: k}}}, []byte{0, 0, 0, 11, 1, 0, 1, 0, 1, 'k', 3, 0, 0, 0, 0}},
		{api.Response{Kind: api.SEpoch, Id: 3, Epoch: 300}, []byte{0, 0, 0, 4, 2, 3, 172, 2}},
		{api.Response{Kind: api.SDone, Id: 9}, []byte{0, 0, 0, 2, 3, 9}},
		{api.Response{Kind: api.SStats, Stats: api.Stats{Taken: 1, Late: 2, Overflow: 3, Full: 4, Cells: 5, Now: 6}}, []byte{0, 0, 0, 8, 4, 0, 1, 2, 3, 4, 5, 6}},
		{api.Response{Kind: api.SError, Id: 2, Err: 255}, []byte{0, 0, 0, 4, 5, 2, 255, 1}},
	} {
		frame, errno := s.Answer(c.r)
		wantBytes(t, c.r, frame, c.want)
		if errno != api.OK {
			t.Errorf("%+v: %v", c.r, errno)
		}
	}
}

// wantAnswers asks for the frames of right responses, also of those that are longer than a client's may be.
func wantAnswers(t *testing.T, s *sess.Sess) {
	t.Helper()
	for _, r := range rightResponses() {
		frame, errno := s.Answer(r)
		wantBytes(t, r.Kind, frame, answered(t, r))
		if errno != api.OK {
			t.Errorf("%+v: %v", r, errno)
		}
	}
	wantBytes(t, "Bad", s.Bad(api.ErrDown), frameOf(5, 0, byte(api.ErrDown)))
}

// P1704: the answer hangs on the response alone, on nothing that the session got.
func TestAnswerHangsOnNothingElse(t *testing.T) {
	s := newSess(t, 16)
	wantAnswers(t, s)
	s.Feed(asked(t, api.Request{Kind: api.RPin}))
	wantAnswers(t, s)
	wantRequest(t, s, api.Request{Kind: api.RPin})
	wantAnswers(t, s)
	s.Feed(headOf(0))
	wantAnswers(t, s)
	wantFault(t, s, api.ErrFrame, 0)
	wantAnswers(t, s)
	wantAnswers(t, newSess(t, 1<<16))
}

// P1704, P4: codec's errors, with no bytes beside them, and nothing changed.
func TestAnswerErrors(t *testing.T) {
	row := api.Row{Cell: k, Agg: api.Agg{Count: 1}}
	with := func(change func(*api.Row)) []api.Row {
		x := row
		change(&x)
		return []api.Row{row, x}
	}
	for _, c := range []struct {
		r    api.Response
		want api.Errno
	}{
		{api.Response{}, api.ErrKind},
		{api.Response{Kind: 6}, api.ErrKind},
		{api.Response{Kind: -1, Id: -1}, api.ErrKind},
		{api.Response{Kind: api.SDone, Id: -1}, api.ErrField},
		{api.Response{Kind: api.SDone, Id: api.MaxEpoch + 1}, api.ErrField},
		{api.Response{Kind: api.SDone, Epoch: 1}, api.ErrField},
		{api.Response{Kind: api.SDone, Rows: []api.Row{row}}, api.ErrField},
		{api.Response{Kind: api.SEpoch}, api.ErrField},
		{api.Response{Kind: api.SError}, api.ErrField},
		{api.Response{Kind: api.SError, Err: 256}, api.ErrField},
		{api.Response{Kind: api.SStats, Stats: api.Stats{Now: -1}}, api.ErrField},
		{api.Response{Kind: api.SRows, Rows: make([]api.Row, 257)}, api.ErrMany},
		{api.Response{Kind: api.SRows, Rows: with(func(x *api.Row) { x.View = 4 })}, api.ErrView},
		{api.Response{Kind: api.SRows, Rows: with(func(x *api.Row) { x.Key = "" })}, api.ErrKey},
		{api.Response{Kind: api.SRows, Rows: with(func(x *api.Row) { x.Start = api.MaxStart + 1 })}, api.ErrTime},
		{api.Response{Kind: api.SRows, Rows: with(func(x *api.Row) { x.Count = -1 })}, api.ErrField},
	} {
		s := newSess(t, 16)
		s.Feed(asked(t, api.Request{Kind: api.RPin}))
		frame, errno := s.Answer(c.r)
		if len(frame) != 0 || errno != c.want || errno != codec.CheckResponse(c.r) {
			t.Errorf("%.80v: %v, %v; want %v", c.r, frame, errno, c.want)
		}
		wantRequest(t, s, api.Request{Kind: api.RPin})
		wantAsked(t, s, 1)
	}
}

// wraps is an error around another one.
type wraps struct{ inner error }

func (w wraps) Error() string { return "around" }
func (w wraps) Unwrap() error { return w.inner }

// is says itself what errors.As finds in it.
type is struct {
	errno api.Errno
	found bool
}

func (i is) Error() string { return "is" }

func (i is) As(target any) bool {
	if e, ok := target.(*api.Errno); ok {
		*e = i.errno
		return i.found
	}
	return false
}

// panics is an error that must not be asked what it wraps.
type panics struct{}

func (panics) Error() string { panic("asked for its word") }
func (panics) Unwrap() error { panic("asked for what it wraps") }

// sets lets errors.As have a number, and panics then.
type sets struct{ panics }

func (sets) As(target any) bool {
	if e, ok := target.(*api.Errno); ok {
		*e = api.ErrBusy
	}
	return false
}

func wantBad(t *testing.T, err error, want api.Errno) {
	t.Helper()
	s := newSess(t, 16)
	got := s.Bad(err)
	wantBytes(t, want, got, answered(t, api.Response{Kind: api.SError, Err: want}))
}

// P1704: each number that there may be, bare and wrapped.
func TestBadNumbers(t *testing.T) {
	for e := api.Errno(1); e <= 255; e++ {
		wantBad(t, e, e)
		wantBad(t, &wire.Error{Errno: e, At: int(e)}, e)
		wantBad(t, wraps{e}, e)
		wantBad(t, fmt.Errorf("so: %w", wraps{&wire.Error{Errno: e}}), e)
	}
}

// P1704: numbers that an answer has no room for.
func TestBadWrongNumbers(t *testing.T) {
	for _, e := range []api.Errno{0, -1, -255, 256, 257, 256 + 35, 1 << 32, 1<<32 + 35, math.MinInt, math.MaxInt} {
		wantBad(t, e, api.ErrArg)
		wantBad(t, &wire.Error{Errno: e}, api.ErrArg)
		wantBad(t, wraps{wraps{e}}, api.ErrArg)
		wantBad(t, is{e, true}, api.ErrArg)
		// The number that is found is that one, though there is another behind it.
		wantBad(t, errors.Join(e, api.ErrBusy), api.ErrArg)
	}
}

// P1704: what errors.As finds in errors of all shapes.
func TestBadShapes(t *testing.T) {
	deep := error(api.ErrPins)
	for range 1 << 16 {
		deep = wraps{deep}
	}
	busy := api.ErrBusy
	for i, c := range []struct {
		err  error
		want api.Errno
	}{
		{errors.New("busy"), api.ErrArg},
		{errors.New(""), api.ErrArg},
		{wraps{}, api.ErrArg},
		{wraps{errors.New("x")}, api.ErrArg},
		{fmt.Errorf("only the word of %v", api.ErrBusy), api.ErrArg},
		{&busy, api.ErrArg},
		{errors.Join(errors.New("x"), wraps{api.ErrBusy}, api.ErrDown), api.ErrBusy},
		{errors.Join(errors.New("x"), errors.New("y")), api.ErrArg},
		{fmt.Errorf("%w, %w", errors.Join(errors.New("x")), api.ErrDown), api.ErrDown},
		{is{api.ErrBusy, true}, api.ErrBusy},
		{is{api.ErrBusy, false}, api.ErrArg},
		{wraps{is{255, true}}, 255},
		{deep, api.ErrPins},
	} {
		t.Run(fmt.Sprint(i), func(t *testing.T) { wantBad(t, c.err, c.want) })
	}
}

// P1: an error that panics when it is asked is one without a number.
func TestBadOfWhatPanics(t *testing.T) {
	var none *wire.Error
	for _, err := range []error{panics{}, &panics{}, wraps{panics{}}, errors.Join(errors.New("x"), panics{}), sets{}, none, wraps{none}} {
		wantBad(t, err, api.ErrArg)
	}
	wantBad(t, errors.Join(api.ErrBusy, panics{}), api.ErrBusy)
}

// P1704: no error, no frame.
func TestBadOfNothing(t *testing.T) {
	s := newSess(t, 16)
	wantBytes(t, "Bad(nil)", s.Bad(nil), nil)
	_, _, err := s.Next()
	wantBytes(t, "Bad of Next's", s.Bad(err), nil)
}

// P1704: of each error that breaks a session.
func TestBadOfNext(t *testing.T) {
	for _, c := range kindsOfWrong() {
		s := newSess(t, 16)
		s.Feed(c.row)
		_, _, err := s.Next()
		wantBytes(t, c.row, s.Bad(err), frameOf(5, 0, byte(c.errno)))
		wantFault(t, s, c.errno, c.at)
	}
}
