package wire_test

import (
	"errors"
	"testing"

	"spate/api"
	"spate/wire"
)

// P103: the word is promoted, the number is found by errors.Is and errors.As (example 5).
func TestErrorTellsItsErrno(t *testing.T) {
	var err error = &wire.Error{Errno: api.ErrCut, At: 3}
	if err.Error() != "cut" {
		t.Errorf("word: %q", err.Error())
	}
	if !errors.Is(err, api.ErrCut) || errors.Is(err, api.ErrForm) {
		t.Error("errors.Is finds another number")
	}
	var e api.Errno
	if !errors.As(err, &e) || e != api.ErrCut {
		t.Errorf("errors.As of an Errno: %v", e)
	}
	var place *wire.Error
	if !errors.As(err, &place) || place.At != 3 {
		t.Errorf("errors.As of an *Error: %v", place)
	}
}

func TestErrorOfEveryErrno(t *testing.T) {
	for n := -3; n < 300; n++ {
		e := &wire.Error{Errno: api.Errno(n), At: -n}
		if e.Error() != api.Errno(n).Error() || e.Unwrap() != error(api.Errno(n)) {
			t.Errorf("%d: %q, %v", n, e.Error(), e.Unwrap())
		}
	}
}
