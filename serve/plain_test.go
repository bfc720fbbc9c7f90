package serve_test

import (
	"errors"
	"fmt"
	"slices"

	"spate/api"
	"spate/epoch"
	"spate/flow"
	"spate/locks"
	"spate/merge"
	"spate/net"
	"spate/oper"
	"spate/sess"
	"spate/store"
)

// plain is the likeness of a server: rows are letters, as the chapter has them, conditions are texts; it has a sched of its own, and counts nothing that it can ask for.
type plain struct {
	c     api.Config
	flow  *flow.Flow
	store *store.Store
	book  *epoch.Book
	net   *net.Net
	locks *locks.Manager

	tasks          []*plainTask
	lines          []api.Line
	debt, stopping bool
	opened         []int // connections, by their numbers
}

type plainTask struct {
	row    byte
	number int // of the source, the operator, the connection
	state  int
	at     string // the condition at which it waits

	oper  *oper.Oper
	from  int
	item  api.Item
	cells []api.Cell // of the event; or those that are to go
	aggs  []api.Agg
	turn  int // the cell's, the shard's

	sess   *sess.Sess
	q      api.Request
	no     int
	doing  bool
	epoch  int
	found  [][]api.Row // by shards
	answer api.Response
	frame  []byte
}

func newPlain(c api.Config) *plain {
	p := &plain{c: c}
	p.flow, _ = flow.New(c.Sources, c.Operators, c.Box)
	p.store, _ = store.New(c.Shards, c.Slots)
	p.book, _ = epoch.New(c.Pins)
	p.net, _ = net.New(c.In, c.Out)
	p.locks, _ = locks.New(c.Shards + 2)
	for i := range c.Sources {
		p.add(&plainTask{row: 'S', number: i})
	}
	for i := range c.Operators {
		o, _ := oper.New(c.Views, c.Sources)
		p.add(&plainTask{row: 'O', number: i, oper: o})
	}
	p.add(&plainTask{row: 'D'})
	return p
}

func (p *plain) add(x *plainTask) {
	x.state = api.TReady
	p.tasks = append(p.tasks, x)
}

func (p *plain) tell(l api.Line) { p.lines = append(p.lines, l) }

func (p *plain) wake(at string) {
	for _, x := range p.tasks {
		if x.state == api.TWaiting && x.at == at {
			x.state = api.TReady
		}
	}
}

func named(what string, number int) string { return fmt.Sprint(what, " ", number) }

func (p *plain) do(e api.Event) api.Errno {
	fields := ""
	for _, f := range []struct {
		name string
		is   bool
	}{{"A", e.A != 0}, {"N", e.N != 0}, {"K", e.Key != ""}, {"T", e.Time != 0}, {"V", e.Value != 0}, {"D", len(e.Data) > 0}} {
		if f.is {
			fields += f.name
		}
	}
	uses := map[int]string{1: "AKTV", 2: "AT", 3: "A", 4: "AD", 5: "AN", 6: "AN", 7: "A", 8: "", 9: "N"}
	may, is := uses[e.Kind]
	if !is {
		return api.ErrKind
	}
	for _, f := range fields {
		if !slices.Contains([]rune(may), f) {
			return api.ErrField
		}
	}
	return p.doRight(e)
}

func (p *plain) doRight(e api.Event) api.Errno {
	var errno api.Errno
	n, wake := 1, named("connection", e.A)
	switch e.Kind {
	case 1:
		errno, wake = p.flow.Put(e.A, api.Item{Key: e.Key, Time: e.Time, Value: e.Value}), named("source", e.A)
	case 2:
		errno, wake = p.flow.Put(e.A, api.Item{Mark: true, Time: e.Time}), named("source", e.A)
	case 3:
		return p.open(e.A)
	case 4:
		return p.net.Send(e.A, e.Data)
	case 5:
		n, errno = p.net.Bring(e.A, e.N)
	case 6:
		n, errno = p.net.Fetch(e.A, e.N)
	case 7:
		errno = p.net.Cut(e.A)
	case 8:
		if p.stopping {
			return api.ErrTwice
		}
		p.stopping = true
		for _, c := range p.opened {
			p.wake(named("connection", c))
		}
		return api.OK
	case 9:
		if l := p.ready(); len(l) > 0 {
			p.step(l[(e.N%len(l)+len(l))%len(l)])
		}
		return api.OK
	}
	if errno == api.OK && n > 0 {
		p.wake(wake)
	}
	return errno
}

func (p *plain) open(c int) api.Errno {
	if p.stopping {
		return api.ErrDown
	}
	if errno := p.net.Open(c); errno != api.OK {
		return errno
	}
	p.opened = append(p.opened, c)
	slices.Sort(p.opened)
	p.tell(api.Line{Kind: api.HOpen, Who: c})
	own, _ := sess.New(p.c.Frame)
	p.add(&plainTask{row: 'I', number: c, sess: own})
	return api.OK
}

func (p *plain) states() []int {
	var l []int
	for _, x := range p.tasks {
		l = append(l, x.state)
	}
	return l
}

func (p *plain) ready() []int {
	var l []int
	for n, x := range p.tasks {
		if x.state == api.TReady {
			l = append(l, n)
		}
	}
	return l
}

func (p *plain) round() int {
	steps := 0
	for _, n := range p.ready() {
		if p.tasks[n].state == api.TReady {
			p.step(n)
			steps++
		}
	}
	for _, c := range p.opened {
		in, out := p.net.Under(c)
		p.do(api.Event{Kind: 5, A: c, N: in})
		p.do(api.Event{Kind: 6, A: c, N: out})
	}
	return steps
}

func (p *plain) idle() bool {
	for _, x := range p.tasks {
		if x.state == api.TReady || x.state == api.TLocked {
			return false
		}
	}
	for _, c := range p.opened {
		if in, out := p.net.Under(c); in+out > 0 {
			return false
		}
	}
	return p.flow.Empty()
}

// The moves: each sets the row of the next step.
func (p *plain) wait(n int, row byte, at string) {
	p.tasks[n].row, p.tasks[n].state, p.tasks[n].at = row, api.TWaiting, at
}

func (p *plain) ask(n int, row byte, l ...api.Lock) {
	p.tasks[n].row = row
	atOnce, err := p.locks.Ask(n, l)
	if err != nil {
		panic(err)
	}
	if !atOnce {
		p.tasks[n].state = api.TLocked
	}
}

func (p *plain) free(n int, row byte) {
	p.tasks[n].row = row
	l, err := p.locks.Free(n)
	if err != nil {
		panic(err)
	}
	for _, other := range l {
		p.tasks[other].state = api.TReady
	}
}

func (p *plain) owe() {
	p.debt = true
	p.wake("reclaimer")
}

func (p *plain) step(n int) {
	x := p.tasks[n]
	switch x.row {
	case 'S':
		p.source(n, x)
	case 'O', 'R', 'W', 'K', 'L':
		p.operator(n, x)
	case 'D', 'P', 'Q', 'E':
		p.reclaimer(n, x)
	case 'I', 'X', 'T', 'V', 'U':
		p.session(n, x)
	case 'A':
		p.admit(n, x)
	default:
		p.request(n, x)
	}
}

func (p *plain) source(n int, x *plainTask) {
	box, errno := p.flow.Toward(x.number)
	if errno == api.ErrGone {
		p.wait(n, 'S', named("source", x.number))
		return
	}
	if _, errno := p.flow.Pass(x.number); errno == api.ErrWait {
		p.wait(n, 'S', named("givers", box))
		return
	}
	p.wake(named("taker", box))
}

func (p *plain) operator(n int, x *plainTask) {
	switch x.row {
	case 'O':
		p.takeUp(n, x)
	case 'R':
		p.read(n, x)
	case 'W':
		if errno := p.store.Put(p.book.Now(), api.Row{Cell: x.cells[x.turn], Agg: x.aggs[x.turn]}); errno != api.OK {
			panic(errno)
		}
		x.turn++
		if x.turn == len(x.cells) {
			if errno := x.oper.Wrote(x.cells); errno != api.OK {
				panic(errno)
			}
			p.fate(x, api.FTaken)
			p.free(n, 'O')
		}
	case 'K':
		p.ask(n, 'L', api.Lock{Shared: true}, api.Lock{N: 2 + p.store.Route(x.cells[x.turn].Key)})
	case 'L':
		c := x.cells[x.turn]
		if errno := p.store.Kill(p.book.Now(), c); errno != api.OK {
			panic(errno)
		}
		p.tell(api.Line{Kind: api.HKill, Who: x.number, Cell: c})
		p.owe()
		x.turn++
		if x.turn < len(x.cells) {
			p.free(n, 'K')
		} else {
			p.free(n, 'O')
		}
	}
}

func (p *plain) fate(x *plainTask, fate int) {
	p.tell(api.Line{Kind: api.HEvent, Who: x.number, From: x.from, Item: x.item, Fate: fate})
}

func (p *plain) takeUp(n int, x *plainTask) {
	from, item, errno := p.flow.Take(x.number)
	if errno == api.ErrGone {
		p.wait(n, 'O', named("taker", x.number))
		return
	}
	p.wake(named("givers", x.number))
	x.from, x.item, x.cells, x.aggs, x.turn = from, item, nil, nil, 0
	if item.Mark {
		p.tell(api.Line{Kind: api.HMark, Who: x.number, From: from, Item: item})
		x.cells, _ = x.oper.Mark(from, item.Time)
		if len(x.cells) > 0 {
			x.row = 'K'
		}
		return
	}
	cells, late, _ := x.oper.Take(item.Key, item.Time)
	switch {
	case late:
		p.fate(x, api.FLate)
	case len(cells) == 0:
		p.fate(x, api.FTaken)
	default:
		x.cells = cells
		p.ask(n, 'R', api.Lock{Shared: true}, api.Lock{N: 2 + p.store.Route(item.Key)})
	}
}

func (p *plain) read(n int, x *plainTask) {
	agg, err := x.oper.Reckon(p.store.Get(x.cells[x.turn]), x.item.Value)
	x.aggs = append(x.aggs, agg)
	x.turn++
	switch {
	case err != nil:
		p.fate(x, api.FOverflow)
		p.free(n, 'O')
	case x.turn < len(x.cells):
	case !p.store.Fits(p.book.Now(), x.cells):
		p.fate(x, api.FFull)
		p.free(n, 'O')
	default:
		x.row, x.turn = 'W', 0
	}
}

func (p *plain) reclaimer(n int, x *plainTask) {
	switch x.row {
	case 'D':
		if !p.debt {
			p.wait(n, 'D', "reclaimer")
			return
		}
		p.debt = false
		if errno := p.book.Begin(); errno != api.OK {
			panic(errno)
		}
		x.row, x.turn = 'P', 0
	case 'P':
		p.ask(n, 'Q', api.Lock{N: 1}, api.Lock{N: 2 + x.turn})
	case 'Q':
		p.store.Prune(x.turn, p.book.Held())
		x.turn++
		if x.turn == p.c.Shards {
			p.free(n, 'E')
		} else {
			p.free(n, 'P')
		}
	case 'E':
		if _, errno := p.book.End(); errno != api.OK {
			panic(errno)
		}
		x.row = 'D'
	}
}

// write writes of the frame what goes: whether that was all.
func (p *plain) write(x *plainTask) bool {
	n, errno := p.net.Write(x.number, x.frame)
	if errno != api.OK {
		panic(errno)
	}
	x.frame = x.frame[n:]
	return len(x.frame) == 0
}

func (p *plain) session(n int, x *plainTask) {
	_, isCut := p.net.Is(x.number)
	switch {
	case x.row == 'V':
		p.ask(n, 'U', api.Lock{N: 1})
	case x.row == 'U':
		if p.book.Drop(x.number) > 0 {
			p.owe()
		}
		p.net.Close(x.number)
		p.tell(api.Line{Kind: api.HLeave, Who: x.number})
		p.free(n, '-')
		x.state = api.TEnded
	case isCut:
		x.row, x.doing = 'V', false
	case x.row == 'I' && p.stopping:
		p.last(x, api.ErrDown)
	case x.row == 'I':
		b, _ := p.net.Take(x.number)
		x.sess.Feed(b)
		q, there, err := x.sess.Next()
		if err != nil {
			p.last(x, err)
		} else if there {
			x.q, x.no, x.row = q, x.sess.Asked()-1, 'A'
			p.tell(api.Line{Kind: api.HAsk, Who: x.number, No: x.no, Request: q})
		} else {
			p.wait(n, 'I', named("connection", x.number))
		}
	case !p.write(x):
		p.wait(n, x.row, named("connection", x.number))
	case x.row == 'T':
		x.row = 'V'
	case x.row == 'X':
		p.tell(api.Line{Kind: api.HAnswer, Who: x.number, No: x.no, Response: x.answer})
		x.row, x.doing = 'I', false
	}
}

func (p *plain) last(x *plainTask, err error) {
	x.frame = x.sess.Bad(err)
	var errno api.Errno
	errors.As(err, &errno)
	p.tell(api.Line{Kind: api.HBad, Who: x.number, Response: api.Response{Kind: api.SError, Err: errno}})
	x.row = 'T'
}

func (p *plain) point(x *plainTask, refusal int) {
	p.tell(api.Line{Kind: api.HPoint, Who: x.number, No: x.no, Fate: refusal})
}

func (p *plain) answer(x *plainTask, r api.Response) {
	r.Id = x.q.Id
	x.answer = r
	frame, errno := x.sess.Answer(r)
	if errno != api.OK {
		panic(errno)
	}
	x.frame = frame
}

func (p *plain) refuse(x *plainTask, errno api.Errno, fate int) {
	p.answer(x, api.Response{Kind: api.SError, Err: errno})
	p.point(x, fate)
	x.row = 'X'
}

func (p *plain) admit(n int, x *plainTask) {
	doing := 0
	for _, other := range p.tasks {
		if other.doing {
			doing++
		}
	}
	reads := x.q.Kind <= api.RScan
	if doing >= p.c.Admit {
		p.refuse(x, api.ErrBusy, int(api.ErrBusy))
		return
	}
	if reads && x.q.Epoch != 0 {
		if !p.book.Holds(x.number, x.q.Epoch) {
			p.refuse(x, api.ErrEpoch, 0)
			return
		}
		p.point(x, 0)
	}
	x.doing, x.epoch, x.turn, x.found = true, x.q.Epoch, 0, make([][]api.Row, p.c.Shards)
	var route []int
	for _, c := range x.q.Cells {
		route = append(route, p.store.Route(c.Key))
	}
	row := byte('B')
	switch {
	case x.q.Kind == api.RGet || x.q.Kind == api.RMulti:
		row = 'G'
	case x.q.Kind == api.RScan && x.q.Epoch == 0:
		row = 'N'
	case x.q.Kind == api.RScan:
		row = 'C'
	}
	p.ask(n, row, x.sess.Needs(x.q, route)...)
}

func (p *plain) request(n int, x *plainTask) {
	switch x.row {
	case 'G':
		var l []api.Row
		for _, c := range x.q.Cells {
			a := p.store.Get(c)
			if x.q.Epoch != 0 {
				a = p.store.At(c, x.q.Epoch)
			}
			l = append(l, api.Row{Cell: c, Agg: a})
		}
		p.answer(x, api.Response{Kind: api.SRows, Rows: l})
		if x.q.Epoch == 0 {
			p.point(x, 0)
		}
		p.free(n, 'X')
	case 'N':
		e, errno := p.book.Inner(x.number)
		if errno != api.OK {
			panic(errno)
		}
		x.epoch = e
		p.point(x, 0)
		p.free(n, 'Y')
	case 'Y':
		p.ask(n, 'C', api.Lock{N: 2 + x.turn, Shared: true})
	case 'C':
		p.chunk(n, x)
	case 'M':
		p.answer(x, api.Response{Kind: api.SRows, Rows: merge.Rows(x.q.Limit, x.found...)})
		if x.q.Epoch == 0 {
			p.ask(n, 'Z', api.Lock{N: 1})
		} else {
			x.row = 'X'
		}
	case 'Z':
		if errno := p.book.Done(x.number); errno != api.OK {
			panic(errno)
		}
		p.owe()
		p.free(n, 'X')
	case 'B':
		p.answer(x, p.decide(x))
		p.point(x, 0)
		p.free(n, 'X')
	}
}

func (p *plain) chunk(n int, x *plainTask) {
	all := p.store.Range(x.turn, x.epoch, x.q.From, x.q.To, p.c.Slots)
	read := len(x.found[x.turn])
	some := all[read:min(read+p.c.Chunk, len(all))]
	x.found[x.turn] = append(x.found[x.turn], some...)
	row := byte('Y')
	if len(some) < p.c.Chunk || read+len(some) >= x.q.Limit {
		x.turn++
		if x.turn == p.c.Shards {
			row = 'M'
		}
	}
	p.free(n, row)
}

func (p *plain) decide(x *plainTask) api.Response {
	var errno api.Errno
	r := api.Response{Kind: api.SDone}
	switch x.q.Kind {
	case api.RPin:
		r.Kind = api.SEpoch
		r.Epoch, errno = p.book.Seal(x.number)
	case api.RJoin:
		errno = p.book.Join(x.number, x.q.Epoch)
	case api.RRelease:
		if errno = p.book.Release(x.number, x.q.Epoch); errno == api.OK {
			p.owe()
		}
	case api.RStats:
		r.Kind = api.SStats
		r.Stats = api.Stats{Cells: p.store.Cells(), Now: p.book.Now()}
		for _, l := range p.lines {
			if l.Kind != api.HEvent {
				continue
			}
			switch l.Fate {
			case api.FTaken:
				r.Stats.Taken++
			case api.FLate:
				r.Stats.Late++
			case api.FOverflow:
				r.Stats.Overflow++
			case api.FFull:
				r.Stats.Full++
			}
		}
	}
	if errno != api.OK {
		r = api.Response{Kind: api.SError, Err: errno}
	}
	return r
}
