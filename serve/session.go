package serve

import (
	"errors"

	"spate/api"
	"spate/sess"
)

// session takes requests off a connection, one behind the other, and answers them.
type session struct {
	rows
	number int // its connection's, and its own as an owner of epochs
	sess   *sess.Sess
	request
	left []byte // of the frame that goes out
}

func newSession(c *core, number int) *session {
	// The frame is that of a right configuration.
	own, _ := sess.New(c.frame)
	s := &session{rows: rows{core: c}, number: number, sess: own}
	s.row = s.listen
	return s
}

// listen is row I.
func (s *session) listen() api.Move {
	if s.isCut() {
		return s.goOn(s.leave)
	}
	if s.stopping {
		return s.breakOff(api.ErrDown)
	}
	b, _ := s.net.Take(s.number)
	s.sess.Feed(b)
	q, there, err := s.sess.Next()
	if err != nil {
		return s.breakOff(err)
	}
	if !there {
		return s.wait(connAt + s.number)
	}
	s.request = request{asked: q, no: s.sess.Asked() - 1}
	s.tell(api.Line{Kind: api.HAsk, Who: s.number, No: s.no, Request: q})
	return s.goOn(s.begin)
}

func (s *session) isCut() bool {
	_, cut := s.net.Is(s.number)
	return cut
}

// breakOff makes an error the last that is told.
func (s *session) breakOff(err error) api.Move {
	var errno api.Errno
	errors.As(err, &errno)
	s.left = s.sess.Bad(err)
	s.tell(api.Line{Kind: api.HBad, Who: s.number, Response: api.Response{Kind: api.SError, Err: errno}})
	return s.goOn(s.sayLast)
}

// say writes as much of the frame as there is room for: whether that is all.
func (s *session) say() bool {
	count, _ := s.net.Write(s.number, s.left)
	s.left = s.left[count:]
	return len(s.left) == 0
}

// sayAnswer is row X.
func (s *session) sayAnswer() api.Move {
	if s.isCut() {
		s.finish()
		return s.goOn(s.leave)
	}
	if !s.say() {
		return s.wait(connAt + s.number)
	}
	s.tell(api.Line{Kind: api.HAnswer, Who: s.number, No: s.no, Response: s.answer})
	s.finish()
	return s.goOn(s.listen)
}

// finish counts the request out, if it was counted in, and lets what it read go.
func (s *session) finish() {
	if s.isDoing {
		s.doing--
	}
	s.request = request{}
}

// sayLast is row T.
func (s *session) sayLast() api.Move {
	if !s.isCut() && !s.say() {
		return s.wait(connAt + s.number)
	}
	return s.goOn(s.leave)
}

// leave is row V, end row U.
func (s *session) leave() api.Move {
	return s.ask(s.end, api.Lock{N: book})
}

func (s *session) end() api.Move {
	if s.book.Drop(s.number) > 0 {
		s.owe()
	}
	s.net.Close(s.number)
	s.tell(api.Line{Kind: api.HLeave, Who: s.number})
	return api.Move{Kind: api.MEnd}
}
