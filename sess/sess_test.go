package sess_test

import (
	"bytes"
	"errors"
	"math"
	"testing"

	"spate/api"
	"spate/sess"
	"spate/wire"
)

// P1701: the numbers that may be, and that a session got no bytes.
func TestNew(t *testing.T) {
	for _, frame := range []int{16, 17, 100, 1 << 15, 1<<16 - 1, 1 << 16} {
		s := newSess(t, frame)
		wantNothing(t, s)
		wantAsked(t, s, 0)
	}
}

// P1701, P4
func TestNewErrors(t *testing.T) {
	for _, frame := range []int{15, 14, 1, 0, -1, -16, 1<<16 + 1, 1 << 17, 1 << 32, 1<<32 + 16, math.MinInt, math.MinInt + 16, math.MaxInt} {
		if s, errno := sess.New(frame); s != nil || errno != api.ErrArg {
			t.Errorf("New(%d): %v, %v", frame, s, errno)
		}
	}
}

// P1701, P1702: a body of frame bytes may be, one of a byte more may not, whatever stands in it.
func TestMostBytesOfABody(t *testing.T) {
	for _, frame := range []int{16, 17, 255, 256, 257, 799, 1<<16 - 1, 1 << 16} {
		s := newSess(t, frame)
		s.Feed(headOf(uint32(frame)))
		wantNothing(t, s)
		s.Feed(bytes.Repeat([]byte{4}, frame-1))
		wantNothing(t, s)
		s.Feed([]byte{0})
		wantFault(t, s, api.ErrTail, 2)

		s = newSess(t, frame)
		s.Feed(headOf(uint32(frame) + 1))
		wantFault(t, s, api.ErrFrame, 0)
	}
}

// P1702: right requests with just so many bytes as a body may have, and with one more.
func TestMostBytesOfARequest(t *testing.T) {
	for n := 1; n <= api.MaxKey; n++ {
		q := api.Request{Kind: api.RGet, Cells: []api.Cell{{Key: longKey[:n]}}}
		body := bodyOf(t, q)
		if len(body) < 16 {
			continue
		}
		s := newSess(t, len(body))
		s.Feed(frameOf(body...))
		wantRequest(t, s, q)
		if len(body) > 16 {
			s = newSess(t, len(body)-1)
			s.Feed(frameOf(body...))
			wantFault(t, s, api.ErrFrame, 0)
		}
	}
}

// P1702, P1703: the chapter's first example.
func TestFirstExample(t *testing.T) {
	s := newSess(t, 16)
	q, half := api.Request{Kind: api.RJoin, Id: 1, Epoch: 3}, asked(t, api.Request{Kind: api.RPin})
	row := append(asked(t, q), half[:3]...)
	s.Feed(row[:3])
	wantNothing(t, s)
	s.Feed(row[3:])
	wantAsked(t, s, 0)
	wantRequest(t, s, q)
	wantNothing(t, s)
	wantAsked(t, s, 1)
}

// P1702, P1704: the chapter's second example.
func TestSecondExample(t *testing.T) {
	s := newSess(t, 16)
	s.Feed(headOf(17))
	for range 5 {
		wantFault(t, s, api.ErrFrame, 0)
	}
	s = newSess(t, 16)
	s.Feed(frameOf(9, 0))
	wantFault(t, s, api.ErrKind, 0)
	_, _, err := s.Next()
	wantBytes(t, "Bad", s.Bad(err), frameOf(5, 0, byte(api.ErrKind)))
}

// P1702: requests of each kind, each told once, in their order, whole.
func TestRequests(t *testing.T) {
	all := rightRequests()
	s := newSess(t, 1<<16)
	for i, q := range all {
		s.Feed(asked(t, q))
		wantRequest(t, s, q)
		wantNothing(t, s)
		wantAsked(t, s, i+1)
	}
	for range 3 {
		for _, q := range all {
			s.Feed(asked(t, q))
		}
	}
	for i := range 3 * len(all) {
		wantRequest(t, s, all[i%len(all)])
		wantAsked(t, s, len(all)+i+1)
	}
	for range 3 {
		wantNothing(t, s)
	}
	wantAsked(t, s, 4*len(all))
}

// P1702: a request is told from its frame's last byte on; a length that may not be from its own last byte on; a body that is refused from its last byte on.
func TestFromWhichByteOn(t *testing.T) {
	for _, q := range rightRequests() {
		s, row := newSess(t, 1<<16), asked(t, q)
		for _, b := range row[:len(row)-1] {
			s.Feed([]byte{b})
			wantNothing(t, s)
		}
		s.Feed(row[len(row)-1:])
		wantRequest(t, s, q)
		wantNothing(t, s)
	}
	for _, c := range kindsOfWrong() {
		last := len(c.row) - 1
		if c.errno == api.ErrFrame {
			last = 3
		}
		s := newSess(t, 16)
		for i := range c.row {
			s.Feed(c.row[i : i+1])
			if i < last {
				wantNothing(t, s)
			} else {
				wantFault(t, s, c.errno, c.at)
			}
		}
		wantAsked(t, s, 0)
	}
}

// P1702, P1703: what is right ahead of a frame that is none is told first; behind it the same error is told, whatever is fed.
func TestBroken(t *testing.T) {
	pin, join := api.Request{Kind: api.RPin, Id: 1}, api.Request{Kind: api.RJoin, Epoch: 2}
	for _, c := range kindsOfWrong() {
		for ahead := range 4 {
			s := newSess(t, 16)
			for range ahead {
				s.Feed(asked(t, pin))
			}
			s.Feed(c.row)
			s.Feed(asked(t, join))
			for range ahead {
				wantRequest(t, s, pin)
			}
			for _, more := range [][]byte{nil, {}, asked(t, join), frameOf(8, 1), headOf(0), headOf(17), {1}, bytes.Repeat([]byte{0}, 100)} {
				wantFault(t, s, c.errno, c.at)
				s.Feed(more)
				wantFault(t, s, c.errno, c.at)
				wantAsked(t, s, ahead)
			}
		}
	}
}

// P1702: the first of several that are none breaks the session; Next has no other error then.
func TestFirstWrongOne(t *testing.T) {
	for _, one := range kindsOfWrong() {
		for _, two := range kindsOfWrong() {
			s := newSess(t, 16)
			s.Feed(append(bytes.Clone(one.row), two.row...))
			wantFault(t, s, one.errno, one.at)
			s.Feed(two.row)
			wantFault(t, s, one.errno, one.at)
		}
	}
}

// P1702: the error is a *wire.Error, in which errors.Is and errors.As find its number.
func TestWhatTheErrorIs(t *testing.T) {
	for _, c := range kindsOfWrong() {
		s := newSess(t, 16)
		s.Feed(c.row)
		for range 2 {
			_, _, err := s.Next()
			var fault *wire.Error
			var errno api.Errno
			if !errors.As(err, &fault) || *fault != (wire.Error{Errno: c.errno, At: c.at}) {
				t.Errorf("%v: %v", c.row, err)
			}
			if !errors.Is(err, c.errno) || !errors.As(err, &errno) || errno != c.errno || err.Error() != c.errno.Error() {
				t.Errorf("%v: %v; want %v", c.row, err, c.errno)
			}
		}
	}
}

// P2: who changes an error that was told changes no later one.
func TestErrorsAreApart(t *testing.T) {
	for _, c := range kindsOfWrong() {
		s := newSess(t, 16)
		s.Feed(c.row)
		for range 3 {
			_, _, err := s.Next()
			_, _, other := s.Next()
			*err.(*wire.Error) = wire.Error{Errno: api.ErrDown, At: 99}
			if *other.(*wire.Error) != (wire.Error{Errno: c.errno, At: c.at}) {
				t.Errorf("%v: %v", c.row, other)
			}
			wantFault(t, s, c.errno, c.at)
		}
	}
}

// P1703: only requests that were told count, and nothing but a Next changes how many.
func TestAsked(t *testing.T) {
	s := newSess(t, 16)
	for i := range 300 {
		s.Feed(asked(t, api.Request{Kind: api.RStats, Id: i}))
		wantAsked(t, s, i)
		wantRequest(t, s, api.Request{Kind: api.RStats, Id: i})
		wantNothing(t, s)
		s.Answer(api.Response{Kind: api.SDone, Id: i})
		s.Answer(api.Response{})
		s.Bad(api.ErrBusy)
		s.Needs(api.Request{Kind: api.RPin}, nil)
		wantAsked(t, s, i+1)
	}
	s.Feed(headOf(0))
	for range 3 {
		wantFault(t, s, api.ErrFrame, 0)
		wantAsked(t, s, 300)
	}
}
