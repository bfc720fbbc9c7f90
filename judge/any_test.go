package judge_test

import (
	"math"
	"math/rand/v2"
	"testing"

	"spate/api"
	"spate/model"
)

// anyConfig is a configuration with few of everything.
func anyConfig(r *rand.Rand) api.Config {
	c := api.Config{
		Sources: 1 + r.IntN(3), Operators: 1 + r.IntN(3), Shards: 1 + r.IntN(4),
		Slots: 2 + r.IntN(40), Box: 1 + r.IntN(3), Admit: 1 + r.IntN(3), Pins: 1 + r.IntN(3),
		Chunk: 1 + r.IntN(3), Frame: 200, In: 1 + r.IntN(60), Out: 1 + r.IntN(60),
	}
	for range 1 + r.IntN(2) {
		v := api.View{Slide: 1 + r.Int64N(10), Late: r.Int64N(8) * r.Int64N(2)}
		v.Size = 1 + r.Int64N(2*v.Slide)
		c.Views = append(c.Views, v)
	}
	return c
}

// talk is a session of a history that is made up.
type talk struct {
	stage string // "", "free", "asked", "pointed", "broken", "left"
	no    int
	asked api.Request
	told  api.Response
}

// author makes up histories that are legal: a model does each operation at its point.
type author struct {
	r        *rand.Rand
	c        api.Config
	m        *model.Model
	time     int64
	talks    []talk
	requests int // how many more may be asked
	id       int
	lines    []api.Line
}

// anyHistory is one of about so many lines, of so many sessions, with so many requests at most.
func anyHistory(t *testing.T, r *rand.Rand, c api.Config, lines, sessions, requests int) []api.Line {
	t.Helper()
	a := &author{r: r, c: c, m: newModel(t, c), talks: make([]talk, sessions+1), requests: requests}
	for range lines {
		if r.IntN(10) < 4 {
			a.pipeline()
		} else {
			a.talk(1 + r.IntN(sessions))
		}
	}
	return a.lines
}

func newModel(t *testing.T, c api.Config) *model.Model {
	t.Helper()
	m, errno := model.New(c)
	if errno != api.OK {
		t.Fatalf("New: %v", errno)
	}
	return m
}

func (a *author) tell(x api.Line) { a.lines = append(a.lines, x) }

// pipeline lets an operator take something up; as long as a cell is due that is all it does.
func (a *author) pipeline() {
	for _, x := range a.m.Map() {
		if a.r.IntN(3) > 0 && a.m.Kill(x.Cell) == api.OK {
			a.tell(api.Line{Kind: api.HKill, Who: a.m.Operator(x.Key), Cell: x.Cell})
			return
		}
	}
	source := a.r.IntN(a.c.Sources)
	if a.r.IntN(4) == 0 {
		a.time += a.r.Int64N(6)
		x := api.Line{Kind: api.HMark, Who: a.r.IntN(a.c.Operators), From: source, Item: api.Item{Mark: true, Time: a.time - a.r.Int64N(8)}}
		if a.m.Mark(x.Who, source, x.Item.Time) == api.OK {
			a.tell(x)
		}
		return
	}
	x := api.Item{Key: a.key(), Time: a.time + a.r.Int64N(24) - 14, Value: a.value()}
	fate, errno := a.m.Event(x, a.r.IntN(8) == 0)
	if errno == api.OK {
		a.tell(api.Line{Kind: api.HEvent, Who: a.m.Operator(x.Key), From: source, Item: x, Fate: fate})
	}
}

func (a *author) key() string { return string(rune('a' + a.r.IntN(3))) }

func (a *author) value() int64 {
	if a.r.IntN(12) == 0 {
		return []int64{math.MaxInt64, math.MinInt64, math.MaxInt64 / 2}[a.r.IntN(3)]
	}
	return a.r.Int64N(20) - 10
}

// talk goes on by a line of a session.
func (a *author) talk(who int) {
	t := &a.talks[who]
	switch n := a.r.IntN(40); {
	case t.stage == "":
		t.stage = "free"
		a.tell(open(who))
	case n == 0 && t.stage != "asked" && t.stage != "left", n < 20 && t.stage == "broken":
		t.stage = "left"
		a.m.Leave(who)
		a.tell(leave(who))
	case n == 1 && t.stage == "free":
		t.stage = "broken"
		a.tell(broken(who, api.ErrCut))
	case t.stage == "free" && a.requests > 0:
		t.stage = "asked"
		a.requests--
		t.asked = a.request()
		a.tell(ask(who, t.no, t.asked))
	case t.stage == "asked":
		t.stage = "pointed"
		x := point(who, t.no)
		if a.r.IntN(12) == 0 {
			x.Fate = int(api.ErrBusy)
		}
		t.told, _ = a.m.Ask(who, t.asked, api.Errno(x.Fate))
		a.tell(x)
	case t.stage == "pointed":
		t.stage = "free"
		a.tell(answer(who, t.no, t.told))
		t.no++
	}
}

func (a *author) request() api.Request {
	a.id++
	var q api.Request
	switch a.r.IntN(12) {
	case 0, 1:
		q = get(a.epoch(), a.cell())
	case 2:
		q = multi(a.epoch(), a.cell(), a.cell())
	case 3, 4:
		q = scan(a.epoch(), 1+a.r.IntN(8))
		if a.r.IntN(2) == 0 {
			q.From, q.To = a.cell(), a.cell()
		}
	case 5, 6, 7:
		q = pin()
	case 8, 9:
		q = joining(max(a.epoch(), 1))
	case 10:
		q = release(max(a.epoch(), 1))
	default:
		q = stats()
	}
	q.Id = a.id
	return q
}

// epoch is now (0), or one that was sealed, or will be soon.
func (a *author) epoch() int {
	if a.r.IntN(3) == 0 {
		return 0
	}
	return max(a.m.Stats().Now+1-a.r.IntN(4), 1)
}

func (a *author) cell() api.Cell {
	view := a.r.IntN(len(a.c.Views))
	slide := a.c.Views[view].Slide
	return api.Cell{View: view, Key: a.key(), Start: (a.time/slide - a.r.Int64N(4) + 1) * slide}
}

// marred is a history with one thing changed, by chance.
func marred(r *rand.Rand, c api.Config, l []api.Line) []api.Line {
	l = deep(l)
	if len(l) == 0 {
		return l
	}
	i := r.IntN(len(l))
	x := &l[i]
	switch r.IntN(14) {
	case 0:
		return append(l[:i], l[i+1:]...)
	case 1:
		j := r.IntN(len(l))
		l[i], l[j] = l[j], l[i]
	case 2:
		if i > 0 {
			l[i], l[i-1] = l[i-1], l[i]
		}
	case 3:
		x.Fate = r.IntN(6)
	case 4:
		x.Who = r.IntN(5) - 1
	case 5:
		x.No += r.IntN(3) - 1
	case 6:
		x.Item.Time += r.Int64N(30) - 15
	case 7:
		x.Kind = r.IntN(11)
	case 8:
		x.From = r.IntN(4) - 1
	default:
		marAnswer(r, l)
	}
	return l
}

// marAnswer changes what one of the answers tells, so that it may be written still, mostly.
func marAnswer(r *rand.Rand, l []api.Line) {
	for range 20 {
		x := &l[r.IntN(len(l))]
		if x.Kind != api.HAnswer {
			continue
		}
		a := &x.Response
		switch a.Kind {
		case api.SEpoch:
			a.Epoch += r.IntN(3) - 1
		case api.SStats:
			a.Stats.Now += r.IntN(3) - 1
			a.Stats.Taken += r.IntN(3) - 1
		case api.SDone:
			*a = api.Response{Kind: api.SError, Id: a.Id, Err: api.ErrEpoch}
		case api.SError:
			*a = []api.Response{{Kind: api.SDone, Id: a.Id}, {Kind: api.SRows, Id: a.Id}, {Kind: api.SEpoch, Id: a.Id, Epoch: 1 + r.IntN(3)}}[r.IntN(3)]
		case api.SRows:
			switch {
			case r.IntN(4) == 0:
				*a = api.Response{Kind: api.SError, Id: a.Id, Err: api.ErrEpoch}
			case len(a.Rows) > 0:
				a.Rows[r.IntN(len(a.Rows))].Sum++
			default:
				a.Id++
			}
		}
		return
	}
}
