package world

import (
	"slices"
	"testing"

	"spate/api"
	"spate/codec"
	"spate/wire"
)

// P2001: bytes that a server never sends: what a client heard goes up to the first frame that is none, or says no response; all behind that is of the rest.
func TestHearWhatIsNone(t *testing.T) {
	long, _ := wire.Frame(make([]byte, api.MaxBody))
	for _, none := range [][]byte{
		{0, 0, 0, 0}, {0, 1, 0, 1}, {0, 1, 0, 1, 3, 3}, {255, 255, 255, 255, 1},
		{0, 0, 0, 1, 9}, {0, 0, 0, 1, 3}, {0, 0, 0, 3, 3, 3, 0}, {0, 0, 0, 2, 5, 0}, {0, 0, 0, 3, 5, 0, 0}, {0, 0, 0, 2, 0, 0},
		long,
	} {
		wantHear(t, none)
		wantHear(t, none, 1, 2, 3)
		wantHear(t, none, done(t, 4)...)
	}
}

// P2001: likewise up to the first one that is not whole.
func TestHearWhatIsNotWhole(t *testing.T) {
	frame := done(t, 4)
	for n := range frame {
		wantHear(t, frame[:n])
	}
	most, _ := wire.Frame(make([]byte, api.MaxBody))
	for _, n := range []int{4, 5, 1000, len(most) - 1} {
		wantHear(t, most[:n])
	}
}

// done is the frame of a response.
func done(t *testing.T, id int) []byte {
	t.Helper()
	body, errno := codec.EncodeResponse(api.Response{Kind: api.SDone, Id: id})
	if errno != api.OK {
		t.Fatal(errno)
	}
	frame, _ := wire.Frame(body)
	return frame
}

// wantHear asks for the responses ahead of what is none, and for all else as the rest.
func wantHear(t *testing.T, none []byte, behind ...byte) {
	t.Helper()
	for ahead := range 4 {
		var b []byte
		for i := range ahead {
			b = append(b, done(t, i)...)
		}
		h := hear(slices.Concat(b, none, behind), ahead == 1)
		if len(h.Responses) != ahead || h.Rest != len(none)+len(behind) || h.End != (ahead == 1) {
			t.Fatalf("%d, %.9v, %v: %+v", ahead, none, behind, h)
		}
		for i, r := range h.Responses {
			if !codec.SameResponse(r, api.Response{Kind: api.SDone, Id: i}) {
				t.Errorf("%+v", h)
			}
		}
	}
}
