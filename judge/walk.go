package judge

import (
	"strconv"

	"spate/api"
	"spate/codec"
	"spate/model"
	"spate/serve"
)

// walker goes through a history with a model, from its first line on.
type walker struct {
	form  *form
	model *model.Model
	told  [api.MaxConns + 1]api.Response // what each session is to be answered
}

// walk goes through a history up to the first line that may not be there: its number, and why; else how many lines there are.
func walk(c api.Config, l []api.Line) (*walker, int, error) {
	if errno := serve.Check(c); errno != api.OK {
		return nil, 0, errno
	}
	m, _ := model.New(c) // what serve takes is right
	w := &walker{form: newForm(c), model: m}
	for i, x := range l {
		if errno := w.next(x); errno != api.OK {
			return nil, i, &fault{i, errno}
		}
	}
	return w, len(l), nil
}

func (w *walker) next(x api.Line) api.Errno {
	if errno := w.form.next(x); errno != api.OK {
		return errno
	}
	switch x.Kind {
	case api.HPoint:
		told, errno := w.model.Ask(x.Who, w.form.sessions[x.Who].request, api.Errno(x.Fate))
		w.told[x.Who] = told
		return errno
	case api.HAnswer:
		if !codec.SameResponse(x.Response, w.told[x.Who]) {
			return api.ErrAnswer
		}
	case api.HLeave:
		w.model.Leave(x.Who)
	}
	return takeUp(w.model, x)
}

// takeUp has a model do what an operator did; other lines are nothing to it.
func takeUp(m *model.Model, x api.Line) api.Errno {
	switch x.Kind {
	case api.HEvent:
		return takeEvent(m, x)
	case api.HMark:
		return m.Mark(x.Who, x.From, x.Item.Time)
	case api.HKill:
		if x.Who != m.Operator(x.Cell.Key) {
			return api.ErrArg
		}
		return m.Kill(x.Cell)
	}
	return api.OK
}

func takeEvent(m *model.Model, x api.Line) api.Errno {
	if x.Who != m.Operator(x.Item.Key) {
		return api.ErrArg
	}
	fate, errno := m.Event(x.Item, x.Fate == api.FFull)
	if errno == api.OK && fate != x.Fate {
		return api.ErrAnswer
	}
	return errno
}

// fault is why a line may not be there.
type fault struct {
	line  int
	errno api.Errno
}

func (f *fault) Error() string {
	return "line " + strconv.Itoa(f.line) + ": " + f.errno.Error()
}

func (f *fault) Unwrap() error { return f.errno }
