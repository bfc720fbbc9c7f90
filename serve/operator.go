package serve

import (
	"spate/api"
	"spate/oper"
)

// operator takes up events and marks.
type operator struct {
	rows
	number int
	oper   *oper.Oper
	turn
	gone []api.Cell // what is to go still
}

// turn is the event that was taken up.
type turn struct {
	from     int
	item     api.Item
	cells    []api.Cell
	reckoned []api.Row // of the first cells, what they are with the event
	written  int
}

func newOperator(c *core, number int, config api.Config) *operator {
	o := &operator{rows: rows{core: c}, number: number}
	o.oper, _ = oper.New(config.Views, config.Sources)
	o.row = o.take
	return o
}

// take is row O.
func (o *operator) take() api.Move {
	from, item, errno := o.flow.Take(o.number)
	if errno != api.OK {
		return o.wait(takerAt + o.number)
	}
	o.wake(giverAt + o.number)
	if item.Mark {
		return o.mark(from, item)
	}
	return o.event(from, item)
}

func (o *operator) mark(from int, item api.Item) api.Move {
	o.tell(api.Line{Kind: api.HMark, Who: o.number, From: from, Item: item})
	// What a source may give a mark may be.
	o.gone, _ = o.oper.Mark(from, item.Time)
	if len(o.gone) > 0 {
		return o.goOn(o.approach)
	}
	return o.goOn(o.take)
}

func (o *operator) event(from int, item api.Item) api.Move {
	// What a source may give an event may be.
	cells, late, _ := o.oper.Take(item.Key, item.Time)
	o.turn = turn{from: from, item: item, cells: cells}
	if late {
		o.end(api.FLate)
		return o.goOn(o.take)
	}
	if len(cells) == 0 {
		o.end(api.FTaken)
		return o.goOn(o.take)
	}
	return o.ask(o.read, api.Lock{N: gate, Shared: true}, o.ofShard(item.Key))
}

// end tells the fate of the event.
func (o *operator) end(fate int) {
	o.tell(api.Line{Kind: api.HEvent, Who: o.number, From: o.from, Item: o.item, Fate: fate})
}

// read is row R: all is reckoned ahead of the first write, so that an event is written as a whole or not at all.
func (o *operator) read() api.Move {
	c := o.cells[len(o.reckoned)]
	a, err := o.oper.Reckon(o.store.Get(c), o.item.Value)
	if err != nil {
		o.end(api.FOverflow)
		return o.letGo(o.take)
	}
	o.reckoned = append(o.reckoned, api.Row{Cell: c, Agg: a})
	if len(o.reckoned) < len(o.cells) {
		return o.goOn(o.read)
	}
	if !o.store.Fits(o.book.Now(), o.cells) {
		o.end(api.FFull)
		return o.letGo(o.take)
	}
	return o.goOn(o.write)
}

// write is row W. That all fits was asked, and the locks keep it so.
func (o *operator) write() api.Move {
	o.store.Put(o.book.Now(), o.reckoned[o.written])
	o.written++
	if o.written < len(o.reckoned) {
		return o.goOn(o.write)
	}
	o.oper.Wrote(o.cells)
	o.end(api.FTaken)
	return o.letGo(o.take)
}

// approach is row K, kill row L.
func (o *operator) approach() api.Move {
	return o.ask(o.kill, api.Lock{N: gate, Shared: true}, o.ofShard(o.gone[0].Key))
}

func (o *operator) kill() api.Move {
	c := o.gone[0]
	o.gone = o.gone[1:]
	o.store.Kill(o.book.Now(), c)
	o.tell(api.Line{Kind: api.HKill, Who: o.number, Cell: c})
	o.owe()
	if len(o.gone) > 0 {
		return o.letGo(o.approach)
	}
	return o.letGo(o.take)
}
