package judge

import (
	"spate/api"
	"spate/model"
)

// search looks for an order, place by place. What the map is at each of them is known ahead; so what is tried is asked of a model without cells, which tells of epochs alone.
type search struct {
	requests []*request
	places   []place
	epochs   *model.Model
	state    state
	seen     map[state]struct{}
}

// state is all on which it hangs whether the rest can be done: what sessions hold follows from it.
type state struct {
	place int
	done  uint // which of the requests are, as bits
	// held tells of an epoch that a pin without an answer sealed up to which line it is held; by whom is nothing to others.
	held [api.MaxSearch + 1]int
}

func newSearch(c api.Config, requests []*request, places []place) *search {
	c.Views, c.Sources, c.Operators = []api.View{{Size: 1, Slide: 1}}, 1, 1
	epochs, _ := model.New(c) // it is as right as it was
	return &search{requests: requests, places: places, epochs: epochs, seen: map[state]struct{}{}}
}

// goesOn tells whether all from a place's line on can be done.
func (s *search) goesOn(at int) bool {
	for ; at < len(s.places); at++ {
		if !s.passes(s.places[at]) {
			return false
		}
		s.read(s.places[at])
		if s.wasHere(at) {
			return false
		}
		if s.fills(at) {
			return true
		}
	}
	return true
}

// passes tells whether a place's line may be there: what it answers must have been done. To pass it again changes nothing.
func (s *search) passes(p place) bool {
	switch p.kind {
	case api.HAnswer:
		for i, r := range s.requests {
			if r.until == p.line && !s.isDone(i) {
				return false
			}
		}
	case api.HLeave:
		s.epochs.Leave(p.who)
	}
	return true
}

// fills tells whether all can be done, if something is done at a place, behind its line.
func (s *search) fills(at int) bool {
	p := s.places[at]
next:
	for i, r := range s.requests {
		if s.isDone(i) || !r.isOpen(p.line) {
			continue
		}
		told, epochs := s.ask(r)
		if !r.changes(told) || !r.mayHear(told, p.isHeard(i)) {
			continue
		}
		for j, x := range s.requests {
			if x.isOf(told) && !p.isHeard(j) {
				continue next
			}
		}
		if s.tries(i, at, told, epochs) {
			return true
		}
	}
	return false
}

// read does what can be done and changes nothing: to wait with it is of no use, and what nobody hears need not be done.
func (s *search) read(p place) {
	for i, r := range s.requests {
		if s.isDone(i) || !r.isOpen(p.line) || !r.answered {
			continue
		}
		told, _ := s.ask(r)
		if !r.changes(told) && r.mayHear(told, p.isHeard(i)) {
			s.state.done |= 1 << i
		}
	}
}

// tries goes on with a request that is done at a place.
func (s *search) tries(n, at int, told api.Response, epochs *model.Model) bool {
	defer func(before state, held *model.Model) {
		s.state, s.epochs = before, held
	}(s.state, s.epochs)
	s.epochs = epochs
	s.state.done |= 1 << n
	if r := s.requests[n]; told.Kind == api.SEpoch && !r.answered {
		s.state.held[told.Epoch] = r.until
	}
	return s.goesOn(at)
}

// ask tells what a request would hear of epochs, and the epochs behind it.
func (s *search) ask(r *request) (api.Response, *model.Model) {
	epochs := s.epochs.Twin()
	told, _ := epochs.Ask(r.session, r.Request, r.refused)
	return told, epochs
}

// wasHere tells whether all was tried from here on already: then it did not go well.
func (s *search) wasHere(at int) bool {
	here := s.state
	here.place = at
	for epoch, until := range here.held {
		if until <= s.places[at].line || !s.isWanted(epoch) {
			here.held[epoch] = 0
		}
	}
	_, was := s.seen[here]
	s.seen[here] = struct{}{}
	return was
}

func (s *search) isDone(n int) bool { return s.state.done>>n&1 == 1 }

// isWanted asks whether an epoch is still to be joined: whether others hold it is nothing to any other request.
func (s *search) isWanted(epoch int) bool {
	for i, r := range s.requests {
		if r.Kind == api.RJoin && r.Epoch == epoch && !s.isDone(i) {
			return true
		}
	}
	return false
}
