package mark

import (
	"spate/api"
	"spate/pane"
)

// Open tells the open windows of a time in all views, and whether it is late.
func (m *Marks) Open(time int64, views ...api.View) ([]api.Cell, bool, api.Errno) {
	if errno := check(time, views...); errno != api.OK {
		return nil, false, errno
	}
	cells := windows(time, views...)
	open := openFirst(cells, m.Least(), views...)
	// Without the bound what is closed would lie in the spare room of what is told.
	return cells[:open:open], open == 0 && len(cells) > 0, api.OK
}

// check goes over all views ahead of the time: pane would tell the time's error of the first view ahead of a later view's own.
func check(time int64, views ...api.View) api.Errno {
	if len(views) > api.MaxViews {
		return api.ErrMany
	}
	for _, v := range views {
		if errno := pane.Check(v); errno != api.OK {
			return errno
		}
	}
	if !isTime(time) {
		return api.ErrTime
	}
	return api.OK
}

// windows tells all windows that have a time, by view and then rising.
func windows(time int64, views ...api.View) []api.Cell {
	var cells []api.Cell
	for n, v := range views {
		starts, _ := pane.Starts(v, time) // check has asked for its errors
		for _, start := range starts {
			cells = append(cells, api.Cell{View: n, Start: start})
		}
	}
	return cells
}

// openFirst moves the cells that are open under a mark to the front, in their order, and tells how many they are.
func openFirst(cells []api.Cell, mark int64, views ...api.View) int {
	open := 0
	for _, cell := range cells {
		if !pane.Closed(views[cell.View], cell.Start, mark) {
			cells[open] = cell
			open++
		}
	}
	return open
}
