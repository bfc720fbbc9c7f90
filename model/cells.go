package model

import (
	"cmp"
	"slices"
	"strings"

	"spate/api"
)

// cells are those that are there, with what they have.
type cells map[api.Cell]api.Agg

// compare is the order of cells (W3).
func compare(a, b api.Cell) int {
	return cmp.Or(
		cmp.Compare(a.View, b.View),
		strings.Compare(a.Key, b.Key),
		cmp.Compare(a.Start, b.Start),
	)
}

// those tells the cells that are chosen, in their order.
func (l cells) those(chosen func(api.Cell) bool) []api.Cell {
	var list []api.Cell
	for c := range l {
		if chosen(c) {
			list = append(list, c)
		}
	}
	slices.SortFunc(list, compare)
	return list
}

// of tells a row for each cell; one that is not there has the zero aggregate.
func (l cells) of(list []api.Cell) []api.Row {
	rows := make([]api.Row, len(list))
	for i, c := range list {
		rows[i] = api.Row{Cell: c, Agg: l[c]}
	}
	return rows
}

// rows tells all, in their order.
func (l cells) rows() []api.Row {
	return l.of(l.those(func(api.Cell) bool { return true }))
}

// span tells those from one cell on, below another: the first ones.
func (l cells) span(from, to api.Cell, limit int) []api.Row {
	list := l.those(func(c api.Cell) bool {
		return compare(c, from) >= 0 && compare(c, to) < 0
	})
	return l.of(list[:min(limit, len(list))])
}
