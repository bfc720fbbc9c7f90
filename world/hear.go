package world

import (
	"spate/api"
	"spate/codec"
	"spate/wire"
)

// hear takes the bytes that a client got to the responses that they say.
func hear(b []byte, end bool) Heard {
	frames, _ := wire.NewFrames(api.MaxBody)
	frames.Feed(b)
	h := Heard{Rest: len(b), End: end}
	for {
		r, there := next(frames)
		if !there {
			return h
		}
		h.Responses = append(h.Responses, r)
		// Asked for right behind a response: a frame that is none is taken off, too, and is of the rest.
		h.Rest = frames.Held()
	}
}

// next is the next response; false behind the last whole one, and from the first frame on that says none.
func next(frames *wire.Frames) (api.Response, bool) {
	body, there, _ := frames.Next()
	if !there {
		return api.Response{}, false
	}
	r, err := codec.DecodeResponse(body)
	return r, err == nil
}
