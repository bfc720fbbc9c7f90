package model

import (
	"spate/agg"
	"spate/api"
)

// Event takes an event up (full: there is no room): its fate.
func (m *Model) Event(x api.Item, full bool) (int, api.Errno) {
	if errno := m.check(x); errno != api.OK {
		return 0, errno
	}
	fate, rows := m.fateOf(x)
	if full {
		if len(rows) == 0 {
			return 0, api.ErrPoint
		}
		fate, rows = api.FFull, nil
	}
	for _, r := range rows {
		m.cells[r.Cell] = r.Agg
	}
	m.fates[fate]++
	return fate, api.OK
}

// check tells OK, if an event may be taken up now.
func (m *Model) check(x api.Item) api.Errno {
	switch {
	case x.Mark || len(m.operators) == 0:
		return api.ErrArg
	case !isIn(len(x.Key), 1, api.MaxKey):
		return api.ErrKey
	case !isTime(x.Time):
		return api.ErrTime
	case len(m.operators[m.Operator(x.Key)].due) > 0:
		return api.ErrOrder
	}
	return api.OK
}

// fateOf tells the fate of an event for which there is room (W10), and what is to be written: nothing, unless it is taken. All is reckoned ahead of the first write.
func (m *Model) fateOf(x api.Item) (int, []api.Row) {
	windows, late, _ := m.operators[m.Operator(x.Key)].marks.Open(x.Time, m.views...) // check has asked for its errors
	if late {
		return api.FLate, nil
	}
	var rows []api.Row
	for _, c := range windows {
		c.Key = x.Key
		a, err := agg.Put(m.cells[c], x.Value)
		if err != nil {
			return api.FOverflow, nil
		}
		rows = append(rows, api.Row{Cell: c, Agg: a})
	}
	return api.FTaken, rows
}
