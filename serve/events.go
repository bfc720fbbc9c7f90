package serve

import "spate/api"

// Do does an event.
func (s *Server) Do(e api.Event) api.Errno {
	s = s.whole()
	used, there := usedOf(e)
	if !there {
		return api.ErrKind
	}
	if !isSame(e, used) {
		return api.ErrField
	}
	switch e.Kind {
	case api.EFeed:
		return s.put(e.A, api.Item{Key: e.Key, Time: e.Time, Value: e.Value})
	case api.EMark:
		return s.put(e.A, api.Item{Mark: true, Time: e.Time})
	case api.EOpen:
		return s.open(e.A)
	case api.ESend:
		return s.net.Send(e.A, e.Data)
	case api.EBring:
		return s.bring(e.A, e.N)
	case api.EFetch:
		return s.fetch(e.A, e.N)
	case api.ECut:
		return s.cut(e.A)
	case api.EStop:
		return s.stop()
	case api.EPick:
		s.sched.Pick(e.N)
	}
	return api.OK
}

// usedOf answers the event with those fields alone that its kind uses; false, if there is no such kind.
func usedOf(e api.Event) (api.Event, bool) {
	used := api.Event{Kind: e.Kind}
	switch e.Kind {
	case api.EFeed:
		used.A, used.Key, used.Time, used.Value = e.A, e.Key, e.Time, e.Value
	case api.EMark:
		used.A, used.Time = e.A, e.Time
	case api.EOpen, api.ECut:
		used.A = e.A
	case api.ESend:
		used.A, used.Data = e.A, e.Data
	case api.EBring, api.EFetch:
		used.A, used.N = e.A, e.N
	case api.EStop:
	case api.EPick:
		used.N = e.N
	default:
		return api.Event{}, false
	}
	return used, true
}

// isSame asks of two of which the one has the other's fields, or zero in their place.
func isSame(a, b api.Event) bool {
	return a.A == b.A && a.N == b.N && a.Key == b.Key && a.Time == b.Time && a.Value == b.Value && len(a.Data) == len(b.Data)
}

func (s *Server) put(source int, x api.Item) api.Errno {
	errno := s.flow.Put(source, x)
	if errno == api.OK {
		s.sched.Wake(sourceAt + source)
	}
	return errno
}

func (s *Server) open(c int) api.Errno {
	if s.stopping {
		return api.ErrDown
	}
	if errno := s.net.Open(c); errno != api.OK {
		return errno
	}
	s.tell(api.Line{Kind: api.HOpen, Who: c})
	s.seat(newSession(s.core, c))
	return api.OK
}

func (s *Server) bring(c, most int) api.Errno {
	count, errno := s.net.Bring(c, most)
	if count > 0 {
		s.sched.Wake(connAt + c)
	}
	return errno
}

func (s *Server) fetch(c, most int) api.Errno {
	count, errno := s.net.Fetch(c, most)
	if count > 0 {
		s.sched.Wake(connAt + c)
	}
	return errno
}

func (s *Server) cut(c int) api.Errno {
	errno := s.net.Cut(c)
	if errno == api.OK {
		s.sched.Wake(connAt + c)
	}
	return errno
}

func (s *Server) stop() api.Errno {
	if s.stopping {
		return api.ErrTwice
	}
	s.stopping = true
	for c := 1; c <= api.MaxConns; c++ {
		s.sched.Wake(connAt + c)
	}
	return api.OK
}
