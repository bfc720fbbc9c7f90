package world

import (
	"spate/api"
	"spate/serve"
)

// What Bound is asked of is at most this, so that no int64 wraps.
const mostAsked = 1 << 20

// Bound tells the bound of T5 of a script's configuration: of so many tasks, bytes of an answer, cells.
func Bound(c api.Config, tasks, bytes, cells int) int {
	if serve.Check(c) != api.OK || !mayBeAsked(tasks, bytes, cells) {
		return -1
	}
	return 40 + 8*(tasks+2)*(2*windows(c.Views)+8)*(bytes+cells+c.Shards+8)
}

func mayBeAsked(numbers ...int) bool {
	for _, n := range numbers {
		if n < 0 || n > mostAsked {
			return false
		}
	}
	return true
}

// windows is how many an event has at most, in all views.
func windows(views []api.View) int {
	n := 0
	for _, v := range views {
		n += int((v.Size + v.Slide - 1) / v.Slide)
	}
	return n
}
