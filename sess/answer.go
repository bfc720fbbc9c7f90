package sess

import (
	"errors"

	"spate/api"
	"spate/codec"
	"spate/wire"
)

// The greatest error that an answer has room for.
const mostErr = 255

// Answer tells a response's frame; Bad the frame that tells an error.
func (s *Sess) Answer(r api.Response) ([]byte, api.Errno) {
	body, errno := codec.EncodeResponse(r)
	if errno != api.OK {
		return nil, errno
	}
	return wire.Frame(body)
}

func (s *Sess) Bad(err error) []byte {
	if err == nil {
		return nil
	}
	frame, _ := s.Answer(api.Response{Kind: api.SError, Err: errnoIn(err)})
	return frame
}

// errnoIn finds the number that is told of an error.
func errnoIn(err error) (found api.Errno) {
	defer func() {
		// What an error wraps its own methods say, and these may panic.
		if recover() != nil {
			found = api.ErrArg
		}
	}()
	if !errors.As(err, &found) || found < 1 || found > mostErr {
		return api.ErrArg
	}
	return found
}
