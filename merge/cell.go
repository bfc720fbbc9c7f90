package merge

import (
	"cmp"
	"strings"

	"spate/api"
)

// A Start's text is its eight bytes with the sign turned round, so that those below 0 are ahead of the others.
const (
	startLen = 8
	signBit  = 1 << 63
)

// What stands behind a 0: a key goes on, or it ends. The end is the lower one, so that a front is ahead.
const (
	keyGoesOn = 255
	keyEnds   = 1
)

// Key tells a cell's text, Cell its cell: texts compare as cells do.
func Key(c api.Cell) (string, api.Errno) {
	if errno := check(c); errno != api.OK {
		return "", errno
	}
	b := []byte{byte(c.View)}
	for i := range len(c.Key) {
		b = append(b, c.Key[i])
		if c.Key[i] == 0 {
			b = append(b, keyGoesOn)
		}
	}
	b = append(b, 0, keyEnds)
	start := uint64(c.Start) ^ signBit
	for shift := 8 * (startLen - 1); shift >= 0; shift -= 8 {
		b = append(b, byte(start>>shift))
	}
	return string(b), api.OK
}

func Cell(key string) (api.Cell, api.Errno) {
	if key == "" {
		return api.Cell{}, api.ErrCut
	}
	text, behind, errno := cutKey(key[1:])
	switch {
	case errno != api.OK:
		return api.Cell{}, errno
	case len(behind) < startLen:
		return api.Cell{}, api.ErrCut
	case len(behind) > startLen:
		return api.Cell{}, api.ErrTail
	}
	c := api.Cell{View: int(key[0]), Key: text, Start: startOf(behind)}
	if errno := check(c); errno != api.OK {
		return api.Cell{}, errno
	}
	return c, api.OK
}

// Compare compares cells (W3).
func Compare(a, b api.Cell) int {
	return cmp.Or(cmp.Compare(a.View, b.View), strings.Compare(a.Key, b.Key), cmp.Compare(a.Start, b.Start))
}

// check tells OK, if a cell has a text: bounds of ranges have one, too, so that the View may be one more, and the Key empty.
func check(c api.Cell) api.Errno {
	switch {
	case c.View < 0 || c.View > api.MaxViews:
		return api.ErrView
	case len(c.Key) > api.MaxKey:
		return api.ErrKey
	case c.Start < -api.MaxStart || c.Start > api.MaxStart:
		return api.ErrTime
	}
	return api.OK
}

// cutKey tells the Key at the front of a text, and what stands behind its end.
func cutKey(text string) (key, behind string, errno api.Errno) {
	var b []byte
	for i := 0; i < len(text); i++ {
		if text[i] != 0 {
			b = append(b, text[i])
			continue
		}
		i++
		switch {
		case i == len(text):
			return "", "", api.ErrCut
		case text[i] == keyEnds:
			return string(b), text[i+1:], api.OK
		case text[i] != keyGoesOn:
			return "", "", api.ErrForm
		}
		b = append(b, 0)
	}
	return "", "", api.ErrCut
}

func startOf(text string) int64 {
	var start uint64
	for i := range startLen {
		start = start<<8 | uint64(text[i])
	}
	return int64(start ^ signBit)
}
