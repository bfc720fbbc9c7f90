// Package wire: numbers and texts as bytes; frames by pieces. See doc/01-wire.md.
package wire

import "spate/api"

// A byte of a number carries seven bits; the eighth says that more bytes come.
const (
	bitsOfByte = 7
	more       = 1 << bitsOfByte
)

// Error is an error with its place: as an error it wraps the number.
type Error struct {
	api.Errno
	At int
}

func (e *Error) Unwrap() error { return e.Errno }
