package world_test

import (
	"slices"
	"testing"

	"spate/api"
	"spate/codec"
	"spate/serve"
	"spate/world"
)

// plain is what a run of a script is to tell, with so many rounds behind it at most, as the chapter has it word for word.
func plain(t *testing.T, s world.Script, rounds int) world.Told {
	t.Helper()
	server, errno := serve.New(s.Config)
	if errno != api.OK {
		t.Fatalf("New: %v", errno)
	}
	var w world.Told
	var opened []int
	for _, e := range s.Events {
		errno := server.Do(e)
		w.Errs = append(w.Errs, errno)
		if e.Kind == api.EOpen && errno == api.OK {
			opened = append(opened, e.A)
		}
		if e.Kind == api.EPick && errno == api.OK {
			w.Steps++
		}
	}
	for rounds > 0 && !server.Idle() {
		w.Steps += server.Round()
		w.Rounds++
		rounds--
	}
	if len(opened) > 0 {
		w.Heard = make([]world.Heard, slices.Max(opened))
	}
	for _, c := range opened {
		b, end := server.Heard(c)
		w.Heard[c-1] = plainHeard(b)
		w.Heard[c-1].End = end
	}
	w.Lines, w.Map, w.Idle = server.Lines(0), server.Map(), server.Idle()
	return w
}

// plainHeard takes bytes to responses by hand.
func plainHeard(b []byte) world.Heard {
	var h world.Heard
	for len(b) >= 4 {
		n := int(b[0])<<24 | int(b[1])<<16 | int(b[2])<<8 | int(b[3])
		if n == 0 || n > api.MaxBody || len(b) < 4+n {
			break
		}
		r, err := codec.DecodeResponse(b[4 : 4+n])
		if err != nil {
			break
		}
		h.Responses = append(h.Responses, r)
		b = b[4+n:]
	}
	h.Rest = len(b)
	return h
}

// bytesOf are those that a client got to the responses that it heard; of the rest only the number is told.
func bytesOf(t *testing.T, h world.Heard) ([]byte, int) {
	t.Helper()
	b := answered(t, h.Responses...)
	return b, len(b) + h.Rest
}
