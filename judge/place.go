package judge

import (
	"spate/api"
	"spate/model"
)

// place is one at which requests may be done: behind a line, up to the line of the next place. Within it all that they could hear is the same.
type place struct {
	line, kind, who int
	heard           uint // which of the requests heard what the map and the counts are here, as bits
}

// lay tells the places of a history; and whether its events, marks and kills may be where they are, and what was heard may have been heard anywhere. These do not hang on requests.
func lay(c api.Config, l []api.Line, requests []*request) ([]place, bool) {
	m, _ := model.New(c) // what serve takes is right
	var places []place
	heard, ever := uint(0), uint(0)
	for i, x := range l {
		if takeUp(m, x) != api.OK {
			return nil, false
		}
		before := heard
		switch x.Kind {
		case api.HAsk, api.HEvent, api.HKill:
			heard = whoHeard(m, i, requests)
			ever |= heard
		}
		if heard != before || isBound(x.Kind) {
			places = append(places, place{i, x.Kind, x.Who, heard})
		}
	}
	return places, ever == readers(requests)
}

// isBound asks whether at a line a request begins, or must have been done.
func isBound(kind int) bool {
	return kind == api.HAsk || kind == api.HAnswer || kind == api.HLeave
}

// readers tells which of the requests heard something of the map or the counts, as bits.
func readers(requests []*request) uint {
	bits := uint(0)
	for i, r := range requests {
		if r.isRead() {
			bits |= 1 << i
		}
	}
	return bits
}

func whoHeard(m *model.Model, line int, requests []*request) uint {
	bits := uint(0)
	for i, r := range requests {
		if r.isRead() && r.mayBeOf(line, requests) && r.heard(m) {
			bits |= 1 << i
		}
	}
	return bits
}

func (p place) isHeard(n int) bool { return p.heard>>n&1 == 1 }
