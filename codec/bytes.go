package codec

import (
	"spate/api"
	"spate/wire"
)

// A writer also lays cells and rows.
type writer struct{ wire.Writer }

func (w *writer) cell(c api.Cell) {
	w.Num(c.View)
	w.Text(c.Key)
	w.Int(c.Start)
}

func (w *writer) row(row api.Row) {
	w.cell(row.Cell)
	w.Int(row.Count)
	w.Int(row.Sum)
	w.Int(row.Min)
	w.Int(row.Max)
}

// A reader also takes cells and rows, and knows where it stands.
type reader struct {
	*wire.Reader
	length int
}

func readerOf(body []byte) *reader { return &reader{wire.Read(body), len(body)} }

func (r *reader) num() int { return r.Num(api.MaxEpoch) }

// count reads how many things follow; 0 if they are too many.
func (r *reader) count(most int) int {
	at := r.length - r.Left()
	n := r.num()
	if n > most {
		r.Fail(api.ErrMany, at)
		return 0
	}
	return n
}

func (r *reader) cell() (c api.Cell) {
	c.View = r.num()
	c.Key = r.Text(api.MaxKey)
	c.Start = r.Int()
	return c
}

func (r *reader) row() (row api.Row) {
	row.Cell = r.cell()
	row.Count = r.Int()
	row.Sum = r.Int()
	row.Min = r.Int()
	row.Max = r.Int()
	return row
}
