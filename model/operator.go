package model

import (
	"slices"

	"spate/api"
	"spate/mark"
	"spate/pane"
)

// operator is what one has heard, and which cells are due at it, in their order. As long as some are due it takes nothing up, and what it takes up is written to open windows alone: no more become due but by a mark.
type operator struct {
	marks *mark.Marks
	due   []api.Cell
}

func newOperator(sources int) operator {
	marks, _ := mark.New(sources) // a right configuration has as many as may be
	return operator{marks: marks}
}

func (o operator) twin(sources int) operator {
	twin := newOperator(sources)
	twin.due = slices.Clone(o.due)
	for source := range sources {
		twin.marks.Rise(source, o.marks.Of(source)) // NoMark is no time: who told none is left so
	}
	return twin
}

// Operator tells a key's operator.
func (m *Model) Operator(key string) int {
	if len(m.operators) == 0 {
		// New did not make this one.
		return 0
	}
	return int(spread(key) % uint64(len(m.operators)))
}

// spread tells the highest 32 bits of W9's product: what a key's operator hangs on.
func spread(key string) uint64 {
	hash := uint64(14695981039346656037)
	for i := range len(key) {
		hash ^= uint64(key[i])
		hash *= 1099511628211
	}
	return hash * 11400714819323198485 >> 32
}

// Mark takes a mark up at an operator; Kill lets a cell go.
func (m *Model) Mark(operator, source int, time int64) api.Errno {
	switch {
	case !isIn(operator, 0, len(m.operators)-1) || !isIn(source, 0, m.sources-1):
		return api.ErrArg
	case !isTime(time):
		return api.ErrTime
	case len(m.operators[operator].due) > 0:
		return api.ErrOrder
	}
	at := &m.operators[operator]
	if rose, _ := at.marks.Rise(source, time); rose {
		at.due = m.cells.those(func(c api.Cell) bool {
			return m.isClosed(c, at.marks.Least()) && m.Operator(c.Key) == operator
		})
	}
	return api.OK
}

func (m *Model) Kill(c api.Cell) api.Errno {
	if _, there := m.cells[c]; !there {
		return api.ErrPoint
	}
	at := &m.operators[m.Operator(c.Key)]
	switch {
	case !m.isClosed(c, at.marks.Least()):
		return api.ErrPoint
	case at.due[0] != c:
		return api.ErrOrder
	}
	at.due = at.due[1:]
	delete(m.cells, c)
	return api.OK
}

// isClosed takes cells that are there: their views are.
func (m *Model) isClosed(c api.Cell, mark int64) bool {
	return pane.Closed(m.views[c.View], c.Start, mark)
}

func isTime(time int64) bool {
	return time >= -api.MaxTime && time <= api.MaxTime
}
