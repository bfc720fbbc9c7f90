package judge

import "spate/api"

// gather tells the requests of a history, or what of its form is not right.
func gather(c api.Config, l []api.Line) ([]*request, api.Errno) {
	var list []*request
	var last [api.MaxConns + 1]*request
	f := newForm(c)
	for i, x := range l {
		if errno := f.next(x); errno != api.OK {
			return nil, errno
		}
		switch x.Kind {
		case api.HAsk:
			last[x.Who] = &request{Request: x.Request, session: x.Who, asked: i, until: len(l)}
			list = append(list, last[x.Who])
		case api.HPoint:
			last[x.Who].refused = api.Errno(x.Fate)
		case api.HAnswer:
			r := last[x.Who]
			r.until, r.answered, r.answer = i, true, x.Response
		case api.HLeave:
			if r := last[x.Who]; r != nil && !r.answered {
				r.until = i
			}
		}
	}
	return list, api.OK
}
