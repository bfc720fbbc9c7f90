package wire

import "bytes"

// Writer lays things behind one another.
type Writer struct {
	laid []byte
}

func (w *Writer) Num(n int) {
	w.bits(uint64(max(n, 0)))
}

func (w *Writer) Int(n int64) {
	// The sign goes into the lowest bit, so that numbers near 0 stay short on both sides.
	w.bits(uint64(n)<<1 ^ uint64(n>>63))
}

func (w *Writer) Text(s string) {
	w.Num(len(s))
	w.laid = append(w.laid, s...)
}

// Bytes answers a copy: what is laid later must not show in it.
func (w *Writer) Bytes() []byte { return bytes.Clone(w.laid) }

func (w *Writer) bits(u uint64) {
	for u >= more {
		w.laid = append(w.laid, byte(u)|more)
		u >>= bitsOfByte
	}
	w.laid = append(w.laid, byte(u))
}
