package serve

import "spate/api"

// source brings what was put into its queue to the operators.
type source struct {
	rows
	number int
}

func newSource(c *core, number int) *source {
	s := &source{rows: rows{core: c}, number: number}
	s.row = s.pass
	return s
}

// pass is row S.
func (s *source) pass() api.Move {
	box, errno := s.flow.Toward(s.number)
	if errno != api.OK {
		return s.wait(sourceAt + s.number)
	}
	if _, errno = s.flow.Pass(s.number); errno != api.OK {
		return s.wait(giverAt + box)
	}
	s.wake(takerAt + box)
	return s.goOn(s.pass)
}
