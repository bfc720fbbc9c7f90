package world

import (
	"spate/api"
	"spate/serve"
)

// run is a server with what its script came to up to now.
type run struct {
	*serve.Server
	told     Told
	greatest int // of the connections that were opened
}

func newRun(c api.Config) (*run, api.Errno) {
	server, errno := serve.New(c)
	if errno != api.OK {
		return nil, errno
	}
	return &run{Server: server}, api.OK
}

func (r *run) do(e api.Event) {
	errno := r.Do(e)
	r.told.Errs = append(r.told.Errs, errno)
	if errno != api.OK {
		return
	}
	switch e.Kind {
	case api.EOpen:
		r.greatest = max(r.greatest, e.A)
	case api.EPick:
		r.told.Steps++
	}
}

func (r *run) settle(rounds int) {
	for r.told.Rounds < rounds && !r.Idle() {
		r.told.Steps += r.Round()
		r.told.Rounds++
	}
}

// gather tells what there is in the end besides.
func (r *run) gather() Told {
	r.told.Lines = r.Lines(0)
	for c := range r.greatest {
		r.told.Heard = append(r.told.Heard, hear(r.Heard(c+1)))
	}
	r.told.Map = r.Map()
	r.told.Idle = r.Idle()
	return r.told
}
