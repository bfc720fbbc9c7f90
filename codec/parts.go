package codec

import "spate/api"

// nothing is the part of a kind that has an Id alone.
type nothing struct{}

func (nothing) check() api.Errno { return api.OK }
func (nothing) write(*writer)    {}
func (nothing) read(*reader)     {}

// someEpoch is a part with an epoch that is not now.
type someEpoch struct{ epoch int }

func (p *someEpoch) check() api.Errno {
	if p.epoch == 0 || !isNumber(p.epoch) {
		return api.ErrField
	}
	return api.OK
}

func (p *someEpoch) write(w *writer) { w.Num(p.epoch) }
func (p *someEpoch) read(r *reader)  { p.epoch = r.num() }

// epochCells are cells at an epoch.
type epochCells struct {
	epoch int
	cells []api.Cell
}

// oneCell is the part of a Get.
type oneCell struct{ epochCells }

func (p *oneCell) check() api.Errno {
	if !isNumber(p.epoch) || len(p.cells) != 1 {
		return api.ErrField
	}
	return checkCell(p.cells[0])
}

func (p *oneCell) write(w *writer) {
	w.Num(p.epoch)
	w.cell(p.cells[0])
}

func (p *oneCell) read(r *reader) {
	p.epoch = r.num()
	p.cells = []api.Cell{r.cell()}
}

// someCells is the part of a Multi.
type someCells struct{ epochCells }

func (p *someCells) check() api.Errno {
	if !isNumber(p.epoch) || len(p.cells) == 0 {
		return api.ErrField
	}
	if len(p.cells) > api.MaxCells {
		return api.ErrMany
	}
	for _, c := range p.cells {
		if e := checkCell(c); e != api.OK {
			return e
		}
	}
	return api.OK
}

func (p *someCells) write(w *writer) {
	w.Num(p.epoch)
	w.Num(len(p.cells))
	for _, c := range p.cells {
		w.cell(c)
	}
}

func (p *someCells) read(r *reader) {
	p.epoch = r.num()
	for range r.count(api.MaxCells) {
		p.cells = append(p.cells, r.cell())
	}
}

// span is the part of a Scan.
type span struct {
	epoch    int
	from, to api.Cell
	limit    int
}

func (p *span) check() api.Errno {
	if !isNumber(p.epoch) {
		return api.ErrField
	}
	if e := checkBound(p.from); e != api.OK {
		return e
	}
	if e := checkBound(p.to); e != api.OK {
		return e
	}
	if p.limit < 1 || p.limit > api.MaxRows {
		return api.ErrMany
	}
	return api.OK
}

func (p *span) write(w *writer) {
	w.Num(p.epoch)
	w.cell(p.from)
	w.cell(p.to)
	w.Num(p.limit)
}

func (p *span) read(r *reader) {
	p.epoch = r.num()
	p.from = r.cell()
	p.to = r.cell()
	p.limit = r.num()
}

// someRows is the part of an answer that has rows.
type someRows struct{ rows []api.Row }

func (p *someRows) check() api.Errno {
	if len(p.rows) > api.MaxRows {
		return api.ErrMany
	}
	for _, row := range p.rows {
		if e := checkRow(row); e != api.OK {
			return e
		}
	}
	return api.OK
}

func (p *someRows) write(w *writer) {
	w.Num(len(p.rows))
	for _, row := range p.rows {
		w.row(row)
	}
}

func (p *someRows) read(r *reader) {
	for range r.count(api.MaxRows) {
		p.rows = append(p.rows, r.row())
	}
}

// counts is the part of an answer that has stats.
type counts struct{ stats api.Stats }

// all tells the six in the order in which they are written.
func (p *counts) all() [6]int {
	s := p.stats
	return [...]int{s.Taken, s.Late, s.Overflow, s.Full, s.Cells, s.Now}
}

func (p *counts) check() api.Errno {
	for _, n := range p.all() {
		if !isNumber(n) {
			return api.ErrField
		}
	}
	return api.OK
}

func (p *counts) write(w *writer) {
	for _, n := range p.all() {
		w.Num(n)
	}
}

func (p *counts) read(r *reader) {
	p.stats.Taken = r.num()
	p.stats.Late = r.num()
	p.stats.Overflow = r.num()
	p.stats.Full = r.num()
	p.stats.Cells = r.num()
	p.stats.Now = r.num()
}

// maxErr is the greatest error that is told.
const maxErr = 255

// refusal is the part of an answer that has an error.
type refusal struct{ err api.Errno }

func (p *refusal) check() api.Errno {
	if p.err < 1 || p.err > maxErr {
		return api.ErrField
	}
	return api.OK
}

func (p *refusal) write(w *writer) { w.Num(int(p.err)) }
func (p *refusal) read(r *reader)  { p.err = api.Errno(r.num()) }
