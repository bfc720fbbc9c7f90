package model

import (
	"spate/api"
	"spate/codec"
)

// present is the Epoch of requests that ask for the map as it is.
const present = 0

// Ask answers a request of a session; refused: what it is refused with, from outside.
func (m *Model) Ask(session int, q api.Request, refused api.Errno) (api.Response, api.Errno) {
	if errno := checkAsk(session, q, refused); errno != api.OK {
		return api.Response{}, errno
	}
	var r api.Response
	if refused == api.OK {
		r, refused = m.answers(session, q)[q.Kind]()
	}
	if refused != api.OK {
		r = api.Response{Kind: api.SError, Err: refused}
	}
	r.Id = q.Id
	return r, api.OK
}

func checkAsk(session int, q api.Request, refused api.Errno) api.Errno {
	if !isIn(session, 1, api.MaxConns) {
		return api.ErrArg
	}
	if errno := codec.CheckRequest(q); errno != api.OK {
		return errno
	}
	switch refused {
	case api.OK, api.ErrBusy, api.ErrDown:
		return api.OK
	}
	return api.ErrArg
}

// answers tells for each kind what does a request of it, and answers; an error is to be told in its place.
func (m *Model) answers(session int, q api.Request) map[int]func() (api.Response, api.Errno) {
	done := api.Response{Kind: api.SDone}
	get := func() (api.Response, api.Errno) {
		then, errno := m.seen(session, q.Epoch)
		return api.Response{Kind: api.SRows, Rows: then.of(q.Cells)}, errno
	}
	return map[int]func() (api.Response, api.Errno){
		api.RGet:   get,
		api.RMulti: get,
		api.RScan: func() (api.Response, api.Errno) {
			then, errno := m.seen(session, q.Epoch)
			if q.Epoch == present {
				errno = m.seal()
			}
			return api.Response{Kind: api.SRows, Rows: then.span(q.From, q.To, q.Limit)}, errno
		},
		api.RPin: func() (api.Response, api.Errno) {
			epoch, errno := m.pin(session)
			return api.Response{Kind: api.SEpoch, Epoch: epoch}, errno
		},
		api.RJoin:    func() (api.Response, api.Errno) { return done, m.join(session, q.Epoch) },
		api.RRelease: func() (api.Response, api.Errno) { return done, m.release(session, q.Epoch) },
		api.RStats: func() (api.Response, api.Errno) {
			return api.Response{Kind: api.SStats, Stats: m.Stats()}, api.OK
		},
	}
}

// seen tells the map that a session sees at an epoch.
func (m *Model) seen(session, epoch int) (cells, api.Errno) {
	if epoch == present {
		return m.cells, api.OK
	}
	then, there := m.held[session][epoch]
	if !there {
		return nil, api.ErrEpoch
	}
	return then, api.OK
}
