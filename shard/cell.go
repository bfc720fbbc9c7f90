package shard

import (
	"cmp"
	"strings"

	"spate/api"
)

// mayBe tells OK, if a cell may be (W3), else what of it may not.
func mayBe(c api.Cell) api.Errno {
	switch {
	case c.View < 0 || c.View >= api.MaxViews:
		return api.ErrView
	case len(c.Key) < 1 || len(c.Key) > api.MaxKey:
		return api.ErrKey
	case c.Start < -api.MaxStart || c.Start > api.MaxStart:
		return api.ErrTime
	}
	return api.OK
}

// compare orders cells, also such as may not be.
func compare(a, b api.Cell) int {
	return cmp.Or(cmp.Compare(a.View, b.View), strings.Compare(a.Key, b.Key), cmp.Compare(a.Start, b.Start))
}

// text of a cell that may be is no other one's, and texts are ordered as their cells are: behind a key stand bytes below all that a longer one could have there, and the Start's sign is turned round, its highest byte first.
func text(c api.Cell) string {
	b := append([]byte{byte(c.View)}, strings.ReplaceAll(c.Key, "\x00", "\x00\x01")...)
	b = append(b, 0, 0)
	const sign = 1 << 63
	start := uint64(c.Start) ^ sign
	for shift := 56; shift >= 0; shift -= 8 {
		b = append(b, byte(start>>shift))
	}
	return string(b)
}
