package oper

import (
	"spate/api"
	"spate/pane"
)

// areRight asks whether a configuration may have these views (W5).
func areRight(views []api.View) bool {
	if len(views) < 1 || len(views) > api.MaxViews {
		return false
	}
	for _, v := range views {
		if pane.Check(v) != api.OK {
			return false
		}
	}
	return true
}

func isKey(key string) bool {
	return len(key) >= 1 && len(key) <= api.MaxKey
}

// check tells OK, if a cell may be live, else what of it is in the way.
func (o *Oper) check(c api.Cell) api.Errno {
	switch {
	case c.View < 0 || c.View >= len(o.views):
		return api.ErrView
	case !isKey(c.Key):
		return api.ErrKey
	case c.Start < -api.MaxStart || c.Start > api.MaxStart:
		return api.ErrTime
	case c.Start%o.views[c.View].Slide != 0:
		return api.ErrField
	case o.closed(c):
		return api.ErrLate
	}
	return api.OK
}
