package serve

import "spate/api"

// task is a source, an operator, the reclaimer, a session.
type task interface {
	step() api.Move
}

// seat is a task's place at the sched: what its step woke goes along with the move.
type seat struct {
	core *core
	task task
}

func (s *seat) Step() api.Move {
	move := s.task.step()
	move.Wake = s.core.takeWoken()
	return move
}

// rows is what each task is made of: what all share, and the row in which it stands.
type rows struct {
	*core
	row func() api.Move
}

func (r *rows) step() api.Move {
	return r.row()
}

// How a step ends; the task goes on at its next step in the row that is handed in, and behind a wait in the same one.
func (r *rows) goOn(row func() api.Move) api.Move {
	r.row = row
	return api.Move{Kind: api.MGo}
}

func (r *rows) ask(row func() api.Move, locks ...api.Lock) api.Move {
	r.row = row
	return api.Move{Kind: api.MAsk, Locks: locks}
}

func (r *rows) letGo(row func() api.Move) api.Move {
	r.row = row
	return api.Move{Kind: api.MFree}
}

func (r *rows) wait(on int) api.Move {
	return api.Move{Kind: api.MWait, On: on}
}
