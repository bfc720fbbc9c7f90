package wire_test

import (
	"bytes"
	"math"
	"testing"

	"spate/api"
	"spate/wire"
)

func newFrames(t *testing.T, most int) *wire.Frames {
	t.Helper()
	f, e := wire.NewFrames(most)
	if f == nil || e != api.OK {
		t.Fatalf("NewFrames(%d): %v, %v", most, f, e)
	}
	return f
}

func frame(t *testing.T, body []byte) []byte {
	t.Helper()
	b, e := wire.Frame(body)
	if e != api.OK {
		t.Fatalf("Frame of %d bytes: %v", len(body), e)
	}
	return b
}

func wantBody(t *testing.T, f *wire.Frames, body string, held int) {
	t.Helper()
	if b, is, e := f.Next(); string(b) != body || !is || e != api.OK || f.Held() != held {
		t.Errorf("Next: %q, %v, %v, %d held; want %q, %d held", b, is, e, f.Held(), body, held)
	}
}

func wantNone(t *testing.T, f *wire.Frames, held int) {
	t.Helper()
	if b, is, e := f.Next(); len(b) != 0 || is || e != api.OK || f.Held() != held {
		t.Errorf("Next: %q, %v, %v, %d held; want nothing, %d held", b, is, e, f.Held(), held)
	}
}

// wantBroken asks for ErrFrame, and that behind it nothing is fed any more (P105).
func wantBroken(t *testing.T, f *wire.Frames, held int) {
	t.Helper()
	for range 2 {
		if b, is, e := f.Next(); len(b) != 0 || is || e != api.ErrFrame || f.Held() != held {
			t.Errorf("Next: %q, %v, %v, %d held; want ErrFrame, %d held", b, is, e, f.Held(), held)
		}
		f.Feed([]byte{0, 0, 0, 1, 7})
		f.Feed(nil)
	}
}

func TestFrame(t *testing.T) {
	if b := frame(t, []byte("x")); !bytes.Equal(b, []byte{0, 0, 0, 1, 120}) {
		t.Errorf("%v", b)
	}
	for n, head := range map[int][]byte{
		1:               {0, 0, 0, 1},
		255:             {0, 0, 0, 255},
		256:             {0, 0, 1, 0},
		api.MaxBody - 1: {0, 0, 255, 255},
		api.MaxBody:     {0, 1, 0, 0},
	} {
		body := repeat(9, n)
		if b := frame(t, body); !bytes.Equal(b, append(head, body...)) {
			t.Errorf("%d: head %v, %d bytes", n, b[:4], len(b))
		}
	}
	for _, body := range [][]byte{nil, {}, repeat(9, api.MaxBody+1)} {
		if b, e := wire.Frame(body); len(b) != 0 || e != api.ErrFrame {
			t.Errorf("%d: %d bytes, %v", len(body), len(b), e)
		}
	}
}

// P2: a frame is new memory, and the body, its spare room too, stays as it was.
func TestFrameIsNew(t *testing.T) {
	room := []byte{1, 2, 3, 4, 5, 6, 7, 8}
	b := frame(t, room[:2])
	if !bytes.Equal(room, []byte{1, 2, 3, 4, 5, 6, 7, 8}) {
		t.Errorf("the body's room changed: %v", room)
	}
	spoil(room)
	if !bytes.Equal(b, []byte{0, 0, 0, 2, 1, 2}) {
		t.Errorf("the frame changed: %v", b)
	}
}

func TestNewFrames(t *testing.T) {
	for _, most := range []int{0, -1, api.MaxBody + 1, math.MinInt, math.MaxInt} {
		if f, e := wire.NewFrames(most); f != nil || e != api.ErrArg {
			t.Errorf("NewFrames(%d): %v, %v", most, f, e)
		}
	}
	for _, most := range []int{1, api.MaxBody} {
		wantNone(t, newFrames(t, most), 0)
	}
}

// P105: the chapter's example 4.
func TestFramesExample(t *testing.T) {
	f := newFrames(t, 3)
	f.Feed([]byte{0, 0})
	wantNone(t, f, 2)
	f.Feed([]byte{0, 2, 97})
	wantNone(t, f, 5)
	f.Feed([]byte{98, 0, 0, 0, 4})
	if f.Held() != 10 {
		t.Errorf("%d held; want 10", f.Held())
	}
	wantBody(t, f, "ab", 4)
	wantBroken(t, f, 4)
}

// P105: a length that may not be is told by its four bytes alone, and not by fewer.
func TestFramesLengths(t *testing.T) {
	for _, c := range []struct {
		most int
		head []byte
	}{
		{3, []byte{0, 0, 0, 0}},
		{3, []byte{0, 0, 0, 4}},
		{3, []byte{0, 0, 1, 0}},
		{3, []byte{0, 1, 0, 1}},
		{3, []byte{1, 0, 0, 1}},
		{3, []byte{128, 0, 0, 1}},
		{3, []byte{255, 255, 255, 255}},
		{api.MaxBody, []byte{0, 1, 0, 1}},
		{api.MaxBody, []byte{0, 0, 0, 0}},
	} {
		f := newFrames(t, c.most)
		f.Feed(c.head[:3])
		wantNone(t, f, 3)
		f.Feed(c.head[3:])
		wantBroken(t, f, 4)
	}
	for _, most := range []int{1, 3, 255, 256, api.MaxBody} {
		f := newFrames(t, most)
		body := repeat(8, most)
		f.Feed(frame(t, body))
		wantBody(t, f, string(body), 0)
		wantNone(t, f, 0)
	}
}

// P105: only an ErrFrame that Next told stops Feed.
func TestFramesFedAheadOfErrFrame(t *testing.T) {
	f := newFrames(t, 3)
	f.Feed([]byte{0, 0, 0, 4})
	f.Feed([]byte{1, 2})
	if f.Held() != 6 {
		t.Errorf("%d held; want 6", f.Held())
	}
	wantBroken(t, f, 6)
}

// P2: neither pieces nor bodies are shared.
func TestFramesAreNew(t *testing.T) {
	room := append(frame(t, []byte("abc")), 1, 2, 3)
	f := newFrames(t, 9)
	f.Feed(room[:5])
	if !bytes.Equal(room[5:], []byte{98, 99, 1, 2, 3}) {
		t.Errorf("the piece's room changed: %v", room)
	}
	spoil(room[:5:5])
	f.Feed(room[5:7])
	f.Feed(frame(t, []byte("de")))
	f.Feed(frame(t, []byte("fg")))
	spoil(room)
	b, is, e := f.Next()
	if string(b) != "abc" || !is || e != api.OK {
		t.Errorf("%q, %v, %v", b, is, e)
	}
	spoil(b)
	c, _, _ := f.Next()
	f.Feed(frame(t, []byte("hi")))
	if string(c) != "de" {
		t.Errorf("%q", c)
	}
	spoil(c)
	wantBody(t, f, "fg", 6)
	wantBody(t, f, "hi", 0)
}

// P7: of two Frames neither sees what the other was fed.
func TestFramesShareNothing(t *testing.T) {
	a, b := newFrames(t, 3), newFrames(t, 3)
	a.Feed([]byte{0, 0, 0, 9})
	wantBroken(t, a, 4)
	wantNone(t, b, 0)
	b.Feed([]byte{0, 0, 0, 1, 65})
	wantBody(t, b, "A", 0)
}

// P1: very many small frames in one piece are told in good time.
func TestFramesMany(t *testing.T) {
	const many = 300000
	f := newFrames(t, 1)
	f.Feed(bytes.Repeat(frame(t, []byte{7}), many))
	for i := range many {
		if b, is, e := f.Next(); len(b) != 1 || b[0] != 7 || !is || e != api.OK {
			t.Fatalf("frame %d: %v, %v, %v", i, b, is, e)
		}
		if held := 5 * (many - i - 1); f.Held() != held {
			t.Fatalf("frame %d: %d held; want %d", i, f.Held(), held)
		}
	}
	wantNone(t, f, 0)
}
