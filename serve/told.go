package serve

import (
	"slices"

	"spate/api"
)

// Lines tells the history from a line on.
func (s *Server) Lines(from int) []api.Line {
	s = s.whole()
	var lines []api.Line
	for _, l := range s.lines[min(max(from, 0), len(s.lines)):] {
		l.Request.Cells = slices.Clone(l.Request.Cells)
		l.Response.Rows = slices.Clone(l.Response.Rows)
		lines = append(lines, l)
	}
	return lines
}

// Heard tells the bytes that a client got, and whether the end.
func (s *Server) Heard(c int) ([]byte, bool) {
	return s.whole().net.Heard(c)
}

// Map tells the cells that are there now, in order; Book: now, held, live epochs; Units of each shard; Most versions of a cell.
func (s *Server) Map() []api.Row {
	s = s.whole()
	return s.store.Scan(0, api.Cell{}, api.Cell{View: api.MaxViews}, s.store.Cells())
}

func (s *Server) Book() (now, held, live int) {
	s = s.whole()
	return s.book.Now(), len(s.book.Held()), s.book.Live()
}

func (s *Server) Units() []int {
	s = s.whole()
	var units []int
	for shard := range s.shards {
		units = append(units, s.store.Units(shard))
	}
	return units
}

func (s *Server) Most() int {
	return s.whole().store.Most()
}

// States tells each task's state.
func (s *Server) States() []int {
	s = s.whole()
	var states []int
	for task := range s.sched.Tasks() {
		states = append(states, s.sched.State(task))
	}
	return states
}
