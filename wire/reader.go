package wire

import (
	"bytes"

	"spate/api"
)

// The most bytes that the one form of a number, of an int has.
const (
	longestNum = 9
	longestInt = 10
)

// Reader takes them off again, up to the first fault.
type Reader struct {
	from  []byte
	at    int
	fault Error // its Errno is OK as long as there is none
}

// Read copies the bytes: the caller may change its own ones meanwhile.
func Read(b []byte) *Reader { return &Reader{from: bytes.Clone(b)} }

func (r *Reader) Num(most int) int {
	begin := r.at
	n := int(r.bits(longestNum))
	if n > most {
		r.Fail(api.ErrField, begin)
		return 0
	}
	return n
}

func (r *Reader) Int() int64 {
	u := r.bits(longestInt)
	return int64(u>>1) ^ -int64(u&1)
}

func (r *Reader) Text(most int) string {
	n := r.Num(most)
	if n > r.Left() {
		r.Fail(api.ErrCut, len(r.from))
		return ""
	}
	s := string(r.from[r.at : r.at+n])
	r.at += n
	return s
}

func (r *Reader) End() {
	if r.Left() > 0 {
		r.Fail(api.ErrTail, r.at)
	}
}

func (r *Reader) Left() int {
	if r.failed() {
		return 0
	}
	return len(r.from) - r.at
}

// Fail lets a fault be the first one, if there is none; Err tells it.
func (r *Reader) Fail(e api.Errno, at int) {
	if !r.failed() && e != api.OK {
		r.fault = Error{e, at}
	}
}

func (r *Reader) Err() error {
	if !r.failed() {
		return nil
	}
	e := r.fault
	return &e
}

func (r *Reader) failed() bool { return r.fault.Errno != api.OK }

// bits reads what Writer.bits lays, of so many bytes at most; 0 if there is a fault.
func (r *Reader) bits(longest int) uint64 {
	if r.failed() {
		return 0
	}
	var u uint64
	for i := range longest {
		if i == len(r.from)-r.at {
			r.Fail(api.ErrCut, len(r.from))
			return 0
		}
		b := r.from[r.at+i]
		u |= uint64(b&^more) << (bitsOfByte * i)
		if b >= more {
			continue
		}
		if !lastMayBe(b, i) {
			break
		}
		r.at += i + 1
		return u
	}
	r.Fail(api.ErrForm, r.at)
	return 0
}

// lastMayBe tells whether a last byte, with so many ahead of it, belongs to the one form: it adds bits, and only such as 64 have room for.
func lastMayBe(b byte, ahead int) bool {
	switch ahead {
	case 0:
		return true
	case longestInt - 1:
		return b == 1
	}
	return b != 0
}
