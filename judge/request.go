package judge

import (
	"spate/api"
	"spate/codec"
	"spate/model"
)

// present is the Epoch of requests that ask for the map as it is.
const present = 0

// request is one that a session asked, with what it heard, if it heard something.
type request struct {
	api.Request
	session  int
	refused  api.Errno
	asked    int // the line of its HAsk
	until    int // the line of its HAnswer; without that of its session's HLeave; without that the end
	answered bool
	answer   api.Response
}

// isOpen asks whether a request may be done behind a line, ahead of the next one.
func (r *request) isOpen(line int) bool { return r.asked <= line && line < r.until }

// isRead asks whether what a request heard hangs on the map or the counts.
func (r *request) isRead() bool {
	switch r.Kind {
	case api.RGet, api.RMulti, api.RScan:
		return r.answered && r.answer.Kind == api.SRows
	case api.RStats:
		return r.answered && r.answer.Kind == api.SStats
	}
	return false
}

// mayBeOf asks whether what a request heard may be of the map behind a line: of that which is, or of that which is sealed there.
func (r *request) mayBeOf(line int, all []*request) bool {
	if r.Epoch == present {
		return r.isOpen(line)
	}
	for _, p := range all {
		if p.Kind == api.RPin && p.isOpen(line) && (!p.answered || p.answer.Epoch == r.Epoch) {
			return true
		}
	}
	return false
}

// heard asks whether a request heard what a model's map and counts are; of the epoch that is now nothing is asked.
func (r *request) heard(m *model.Model) bool {
	q := r.Request
	q.Epoch = present
	told, _ := m.Ask(r.session, q, api.OK)
	told.Stats.Now = r.answer.Stats.Now
	return codec.SameResponse(told, r.answer)
}

// changes asks whether a request changes what is held, or which epoch is now, if it is told that.
func (r *request) changes(told api.Response) bool {
	switch r.Kind {
	case api.RScan:
		return told.Kind == api.SRows && r.Epoch == present
	case api.RPin, api.RJoin, api.RRelease:
		return told.Kind != api.SError
	}
	return false
}

// mayHear asks whether a request heard what it is told, if it heard something. Of rows and counts that is not told, but heard: whether they are those of the place. Of rows at an epoch that was asked for when it was sealed.
func (r *request) mayHear(told api.Response, heard bool) bool {
	switch {
	case !r.answered:
		return true
	case told.Kind != r.answer.Kind:
		return false
	case told.Kind == api.SRows:
		return heard || r.Epoch != present
	case told.Kind == api.SStats:
		return heard && told.Stats.Now == r.answer.Stats.Now
	}
	return codec.SameResponse(told, r.answer)
}

// isOf asks whether a request heard what the map was at the epoch that is sealed by what is told.
func (r *request) isOf(told api.Response) bool {
	return told.Kind == api.SEpoch && r.isRead() && r.Epoch == told.Epoch
}
