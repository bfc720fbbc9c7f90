package sched

import "spate/api"

// step lets a ready task do its step, and does its move.
func (s *Sched) step(task int) {
	move, whole := stepOf(s.tasks[task].task)
	if !whole {
		s.end(task, panicked{task})
		return
	}
	// Ahead of its kind, so that a task is not woken from a condition at which it begins to wait.
	for _, on := range move.Wake {
		s.wake(on)
	}
	s.do(task, move)
}

// stepOf answers false, if the step panicked: then there is no move.
func stepOf(t Task) (move api.Move, whole bool) {
	defer func() { _ = recover() }()
	return t.Step(), true
}

// do does what a move's kind says.
func (s *Sched) do(task int, m api.Move) {
	switch m.Kind {
	case api.MGo:
	case api.MAsk:
		s.ask(task, m.Locks)
	case api.MFree:
		s.free(task)
	case api.MWait:
		s.halt(task, api.TWaiting)
		s.waits[m.On] = append(s.waits[m.On], task)
	case api.MEnd:
		s.end(task, nil)
	default:
		s.end(task, api.ErrKind)
	}
}

func (s *Sched) ask(task int, l []api.Lock) {
	granted, err := s.locks.Ask(task, l)
	if err != nil {
		s.end(task, err)
	} else if !granted {
		s.halt(task, api.TLocked)
	}
}

func (s *Sched) free(task int) {
	granted, err := s.locks.Free(task)
	if err != nil {
		s.end(task, err)
		return
	}
	s.goOn(granted)
}

// end ends a task. It lets its locks go, as it never will by a move of its own.
func (s *Sched) end(task int, fault error) {
	s.halt(task, api.TEnded)
	s.tasks[task].task = nil
	s.tasks[task].fault = fault
	s.goOn(s.locks.Quit(task))
}

func (s *Sched) wake(on int) int {
	woken := s.waits[on]
	delete(s.waits, on)
	s.goOn(woken)
	return len(woken)
}

// halt gives a task that was ready another state.
func (s *Sched) halt(task, state int) {
	s.tasks[task].state = state
	s.ready.add(task, -1)
}

// goOn makes tasks ready that were not.
func (s *Sched) goOn(tasks []int) {
	for _, task := range tasks {
		s.tasks[task].state = api.TReady
		s.ready.add(task, 1)
	}
}
