package wire

import (
	"bytes"

	"spate/api"
)

// A frame's head is its body's length, the highest byte first.
const headBytes = 4

// Frame puts a body's length ahead of it.
func Frame(body []byte) ([]byte, api.Errno) {
	n := len(body)
	if n < 1 || n > api.MaxBody {
		return nil, api.ErrFrame
	}
	frame := make([]byte, 0, headBytes+n)
	frame = append(frame, byte(n>>24), byte(n>>16), byte(n>>8), byte(n))
	return append(frame, body...), api.OK
}

// Frames takes pieces to frames' bodies.
type Frames struct {
	most   int
	fed    []byte
	told   int // how many bytes of fed belong to frames that were told
	broken int // how many bytes are held since an ErrFrame; 0: there was none
}

func NewFrames(most int) (*Frames, api.Errno) {
	if most < 1 || most > api.MaxBody {
		return nil, api.ErrArg
	}
	return &Frames{most: most}, api.OK
}

func (f *Frames) Feed(piece []byte) {
	if f.broken == 0 {
		f.fed = append(f.fed, piece...)
	}
}

func (f *Frames) Next() ([]byte, bool, api.Errno) {
	if f.broken > 0 {
		return nil, false, api.ErrFrame
	}
	ahead := f.fed[f.told:]
	if len(ahead) < headBytes {
		return nil, false, api.OK
	}
	n := lengthIn(ahead)
	if n < 1 || n > f.most {
		f.breakOff()
		return nil, false, api.ErrFrame
	}
	end := headBytes + n
	if len(ahead) < end {
		return nil, false, api.OK
	}
	body := bytes.Clone(ahead[headBytes:end])
	f.letGo(end)
	return body, true, api.OK
}

func (f *Frames) Held() int {
	if f.broken > 0 {
		return f.broken
	}
	return len(f.fed) - f.told
}

// breakOff keeps how many bytes are held; nobody asks for the bytes any more.
func (f *Frames) breakOff() {
	f.broken = f.Held()
	f.fed, f.told = nil, 0
}

// letGo moves the rest only when at least half is told, so that many small frames in one piece cost no more than their bytes.
func (f *Frames) letGo(n int) {
	f.told += n
	if f.told >= f.Held() {
		f.fed = bytes.Clone(f.fed[f.told:])
		f.told = 0
	}
}

func lengthIn(head []byte) int {
	n := 0
	for _, b := range head[:headBytes] {
		n = n<<8 | int(b)
	}
	return n
}
