package pane

import (
	"slices"

	"spate/api"
)

// End tells a window's end; Closed whether it is closed under a mark.
func End(v api.View, start int64) int64 {
	return start + v.Size
}

func Closed(v api.View, start, mark int64) bool {
	return End(v, start)+v.Late <= mark
}

// Open tells those of Starts that are open under a mark.
func Open(v api.View, time, mark int64) ([]int64, api.Errno) {
	starts, errno := Starts(v, time)
	if errno != api.OK {
		return nil, errno
	}
	closed := func(start int64) bool { return Closed(v, start, mark) }
	return slices.DeleteFunc(starts, closed), api.OK
}

// First tells the least start that is open under a mark.
func First(v api.View, mark int64) int64 {
	if Check(v) != api.OK {
		return 0
	}
	// A mark that may not be is cut to one that may: nothing wraps, and the search ends.
	mark = min(max(mark, api.NoMark), -api.NoMark)
	return oldest(v, mark-v.Late)
}
