package codec

import "spate/api"

func checkCell(c api.Cell) api.Errno {
	return checkPlace(c, api.MaxViews-1, 1)
}

// checkBound lets a bound stand ahead of all keys of a view, and behind all views.
func checkBound(c api.Cell) api.Errno {
	return checkPlace(c, api.MaxViews, 0)
}

// checkPlace tells whether a cell has at most that view, and a key of at least so many bytes.
func checkPlace(c api.Cell, mostView, leastKey int) api.Errno {
	switch {
	case c.View < 0 || c.View > mostView:
		return api.ErrView
	case len(c.Key) < leastKey || len(c.Key) > api.MaxKey:
		return api.ErrKey
	case c.Start < -api.MaxStart || c.Start > api.MaxStart:
		return api.ErrTime
	}
	return api.OK
}

func checkRow(row api.Row) api.Errno {
	if e := checkCell(row.Cell); e != api.OK {
		return e
	}
	if row.Count < 0 || row.Count == 0 && row.Agg != (api.Agg{}) || row.Min > row.Max {
		return api.ErrField
	}
	return api.OK
}
