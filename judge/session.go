package judge

import "spate/api"

// Stages of a session: each line of it may stand behind some of them alone.
const (
	unopened = iota
	free     // all that was asked is answered
	asked
	pointed
	broken // by an error frame
	left
)

// session is how far one has come; no is the number of its next request, or of that which is not answered.
type session struct {
	stage, no int
	request   api.Request
}

// behind tells how far a session has come by a line, and whether that may stand there.
func (s session) behind(x api.Line) (session, bool) {
	switch {
	case x.Kind == api.HOpen && s.stage == unopened:
		s.stage = free
	case x.Kind == api.HAsk && s.stage == free && x.No == s.no:
		s.stage, s.request = asked, x.Request
	case x.Kind == api.HPoint && s.stage == asked && x.No == s.no:
		s.stage = pointed
	case x.Kind == api.HAnswer && s.stage == pointed && x.No == s.no:
		s.stage = free
		s.no++
	case x.Kind == api.HBad && s.stage == free:
		s.stage = broken
	case x.Kind == api.HLeave && s.mayLeave():
		s.stage = left
	default:
		return s, false
	}
	return s, true
}

func (s session) mayLeave() bool {
	return s.stage == free || s.stage == pointed || s.stage == broken
}
