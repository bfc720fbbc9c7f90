package judge

import (
	"spate/api"
	"spate/codec"
	"spate/flow"
)

// form asks for the form of lines, and of a history: it knows how far each session has come.
type form struct {
	operators, sources int
	sessions           [api.MaxConns + 1]session
}

func newForm(c api.Config) *form {
	return &form{operators: c.Operators, sources: c.Sources}
}

// next tells OK, if a line has the form of one, and may stand behind those that were asked about so far.
func (f *form) next(x api.Line) api.Errno {
	if !f.isLine(x) {
		return api.ErrField
	}
	if !isOfSession(x.Kind) {
		return api.OK
	}
	behind, right := f.sessions[x.Who].behind(x)
	if !right {
		return api.ErrOrder
	}
	f.sessions[x.Who] = behind
	return api.OK
}

// isOfSession asks whether a line's Who is a session.
func isOfSession(kind int) bool { return isIn(kind, api.HOpen, api.HLeave) }

func (f *form) isLine(x api.Line) bool {
	return isIn(x.Kind, api.HEvent, api.HLeave) && f.isWho(x) && f.isUsedWell(x) && isEmpty(rest(x))
}

func (f *form) isWho(x api.Line) bool {
	if isOfSession(x.Kind) {
		return isIn(x.Who, 1, api.MaxConns)
	}
	return isIn(x.Who, 0, f.operators-1)
}

// isUsedWell asks about the fields that a line's kind uses, beside Who. No is not asked about here, as what it may be hangs on the session.
func (f *form) isUsedWell(x api.Line) bool {
	switch x.Kind {
	case api.HEvent:
		return f.isGiven(x) && isIn(x.Fate, api.FTaken, api.FFull)
	case api.HMark:
		return f.isGiven(x)
	case api.HAsk:
		return codec.CheckRequest(x.Request) == api.OK
	case api.HPoint:
		return x.Fate == int(api.OK) || x.Fate == int(api.ErrBusy)
	case api.HAnswer:
		return codec.CheckResponse(x.Response) == api.OK
	case api.HBad:
		return x.Response.Kind == api.SError && codec.CheckResponse(x.Response) == api.OK
	}
	return true
}

// isGiven asks whether a line's item is of its kind, and one that a source may give.
func (f *form) isGiven(x api.Line) bool {
	if !isIn(x.From, 0, f.sources-1) || x.Item.Mark != (x.Kind == api.HMark) {
		return false
	}
	queue, _ := flow.New(1, 1, 1)
	return queue.Put(0, x.Item) == api.OK
}

// rest is what a line has beside what its kind uses.
func rest(x api.Line) api.Line {
	kind := x.Kind
	x.Kind, x.Who = 0, 0
	switch kind {
	case api.HEvent:
		x.From, x.Item, x.Fate = 0, api.Item{}, 0
	case api.HMark:
		x.From, x.Item = 0, api.Item{}
	case api.HKill:
		x.Cell = api.Cell{}
	case api.HAsk:
		x.No, x.Request = 0, api.Request{}
	case api.HPoint:
		x.No, x.Fate = 0, 0
	case api.HAnswer:
		x.No, x.Response = 0, api.Response{}
	case api.HBad:
		x.Response = api.Response{}
	}
	return x
}

func isEmpty(x api.Line) bool {
	return x.No == 0 && x.From == 0 && x.Fate == 0 && x.Item == api.Item{} && x.Cell == api.Cell{} &&
		codec.SameRequest(x.Request, api.Request{}) && codec.SameResponse(x.Response, api.Response{})
}

func isIn(n, least, most int) bool { return n >= least && n <= most }
