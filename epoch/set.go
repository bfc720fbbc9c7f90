package epoch

import (
	"maps"
	"slices"
)

// set has epochs.
type set map[int]struct{}

func (s set) has(epoch int) bool {
	_, there := s[epoch]
	return there
}

func (s set) add(epoch int) {
	s[epoch] = struct{}{}
}

// list tells them in no order.
func (s set) list() []int {
	return slices.Collect(maps.Keys(s))
}

func (s set) twin() set {
	return maps.Clone(s)
}
