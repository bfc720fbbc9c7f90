package shard

import (
	"spate/api"
	"spate/chain"
	"spate/table"
)

// now is asked for as an epoch.
const now = 0

// row is a cell with its versions.
type row struct {
	api.Cell
	*chain.Chain[api.Agg]
}

// at tells the zero Agg, where the cell is not there.
func (r row) at(epoch int) api.Agg {
	if epoch == now {
		v, _, _ := r.Newest()
		return v
	}
	v, _ := r.At(epoch)
	return v
}

// need tells how many units an aggregate at an epoch would take more: one for a version more, one for a cell that is not there now.
func (r row) need(epoch int) int {
	_, newest, there := r.Newest()
	if newest > epoch {
		return 0
	}
	need := 0
	if newest < epoch {
		need++
	}
	if !there {
		need++
	}
	return need
}

// rows are those of all cells that have versions, under texts that are ordered as cells are.
type rows struct {
	texts *table.Table[row]
}

func noRows() rows {
	return rows{table.New[row]()}
}

// find, of a cell that may be, answers a row that is not kept yet, if it has no versions.
func (r rows) find(c api.Cell) row {
	if kept, there := r.texts.Get(text(c)); there {
		return kept
	}
	return row{c, chain.New[api.Agg]()}
}

func (r rows) keep(one row) {
	r.texts.Put(text(one.Cell), one)
}

func (r rows) drop(one row) {
	r.texts.Drop(text(one.Cell))
}

// each hands rows on, in the order of their cells, as long as it is told to go on; rows may be dropped meanwhile.
func (r rows) each(do func(row) bool) {
	for _, one := range r.texts.All() {
		if !do(one) {
			return
		}
	}
}

// Range tells cells from one to ahead of another at an epoch, in order, so many at most.
func (s *Shard) Range(epoch int, from, to api.Cell, most int) []api.Row {
	var told []api.Row
	s.each(func(r row) bool {
		if len(told) >= most || compare(r.Cell, to) >= 0 {
			return false
		}
		v := r.at(epoch)
		if v.Count > 0 && compare(from, r.Cell) <= 0 {
			told = append(told, api.Row{Cell: r.Cell, Agg: v})
		}
		return true
	})
	return told
}

// Prune lets go what is needed no more: how many units.
func (s *Shard) Prune(held []int) int {
	gone := 0
	s.most = 0
	s.each(func(r row) bool {
		n := r.Prune(held)
		if r.Len() == 0 {
			s.drop(r)
		}
		s.count(-n, 0, r.Len())
		gone += n
		return true
	})
	return gone
}
