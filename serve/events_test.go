package serve_test

import (
	"math"
	"strings"
	"testing"

	"spate/api"
)

// fields are the fields of an event, each by a change.
func fields() map[byte]func(*api.Event) {
	return map[byte]func(*api.Event){
		'A': func(e *api.Event) { e.A = -1 },
		'N': func(e *api.Event) { e.N = -1 },
		'K': func(e *api.Event) { e.Key = "\x00" },
		'T': func(e *api.Event) { e.Time = math.MinInt64 },
		'V': func(e *api.Event) { e.Value = -1 },
		'D': func(e *api.Event) { e.Data = []byte{0} },
	}
}

// P1802: ErrKind, whatever the fields.
func TestNoKind(t *testing.T) {
	s := newServer(t, small())
	for _, kind := range []int{0, -1, 10, 11, math.MinInt, math.MaxInt} {
		wantErrno(t, s, api.Event{Kind: kind}, api.ErrKind)
		for _, change := range fields() {
			e := api.Event{Kind: kind}
			change(&e)
			wantErrno(t, s, e, api.ErrKind)
		}
	}
}

// P1802: ErrField, if a field is not zero that the kind does not use, ahead of the errors of those that it uses; and not of these.
func TestFields(t *testing.T) {
	for kind, uses := range map[int]string{
		api.EFeed: "AKTV", api.EMark: "AT", api.EOpen: "A", api.ESend: "AD", api.EBring: "AN",
		api.EFetch: "AN", api.ECut: "A", api.EStop: "", api.EPick: "N",
	} {
		s := newServer(t, small())
		for name, change := range fields() {
			e := api.Event{Kind: kind}
			change(&e)
			if !strings.ContainsRune(uses, rune(name)) {
				wantErrno(t, s, e, api.ErrField)
				wantErrno(t, s, api.Event{Kind: kind, A: e.A | 99*strings.Count(uses, "A"), N: e.N, Key: e.Key, Time: e.Time, Value: e.Value, Data: e.Data}, api.ErrField)
			} else if errno := s.Do(e); errno == api.ErrField {
				t.Errorf("Do(%+v): %v", e, errno)
			}
		}
	}
}

// P2: no list and an empty one are the same.
func TestEmptyData(t *testing.T) {
	for _, b := range [][]byte{nil, {}, make([]byte, 0, 9)} {
		s := newServer(t, small())
		for _, e := range []api.Event{feed(0, "a", 1, 1), mark(0, 1), open(1), send(1, nil), bring(1, 1), fetch(1, 1), cut(1), stop(), pick(0)} {
			e.Data = b
			wantErrno(t, s, e, api.OK)
		}
	}
}

// P1802: of EFeed and EMark the errors of flow, in their order.
func TestItems(t *testing.T) {
	s := newServer(t, with(func(c *api.Config) { c.Sources = 2 }))
	long := strings.Repeat("k", 33)
	for _, c := range []struct {
		e    api.Event
		want api.Errno
	}{
		{feed(2, "", 1<<61, 0), api.ErrArg},
		{feed(-1, "a", 0, 0), api.ErrArg},
		{feed(1, "", 1<<61, 0), api.ErrKey},
		{feed(1, long, 0, 0), api.ErrKey},
		{feed(1, "a", 1<<60+1, 0), api.ErrTime},
		{feed(1, "a", -1<<60-1, 0), api.ErrTime},
		{feed(1, long[:32], 1<<60, math.MinInt64), api.OK},
		{feed(1, "\x00", -1<<60, math.MaxInt64), api.OK},
		{mark(2, 1<<61), api.ErrArg},
		{mark(-1, 0), api.ErrArg},
		{mark(0, 1<<60+1), api.ErrTime},
		{mark(0, math.MinInt64), api.ErrTime},
		{mark(0, 1<<60), api.OK},
		{mark(0, -1<<60), api.OK},
	} {
		wantErrno(t, s, c.e, c.want)
	}
}

// P1802: a queue has room for MaxFeed items, each source's for its own.
func TestFullQueue(t *testing.T) {
	s := newServer(t, with(func(c *api.Config) { c.Sources = 2 }))
	for range api.MaxFeed / 2 {
		do(t, s, feed(0, "a", 1, 1), mark(0, 0))
	}
	wantErrno(t, s, feed(0, "a", 1, 1), api.ErrMany)
	wantErrno(t, s, mark(0, 1), api.ErrMany)
	wantErrno(t, s, feed(1, "a", 1, 1), api.OK)
	do(t, s, pick(0))
	wantErrno(t, s, mark(0, 1), api.OK)
	wantErrno(t, s, mark(0, 1), api.ErrMany)
}

// P1802: EFeed and EMark wake their source alone.
func TestItemsWake(t *testing.T) {
	s := resting(t, with(func(c *api.Config) { c.Sources = 3 }), 1)
	wantStates(t, s, 3, 3, 3, 3, 3, 3)
	do(t, s, feed(1, "a", 1, 1))
	wantStates(t, s, 3, 1, 3, 3, 3, 3)
	do(t, s, mark(2, 1))
	wantStates(t, s, 3, 1, 1, 3, 3, 3)
	do(t, s, mark(2, 1), feed(1, "a", 1, 1))
	wantStates(t, s, 3, 1, 1, 3, 3, 3)
	wantErrno(t, s, feed(0, "", 1, 1), api.ErrKey)
	wantErrno(t, s, mark(0, 1<<61), api.ErrTime)
	wantStates(t, s, 3, 1, 1, 3, 3, 3)
}

// P1802: EOpen: each connection once, as many as there are, a line and a task for each.
func TestOpen(t *testing.T) {
	s := newServer(t, small())
	wantErrno(t, s, open(0), api.ErrArg)
	wantErrno(t, s, open(65), api.ErrArg)
	wantErrno(t, s, open(-1), api.ErrArg)
	for c := api.MaxConns; c > 0; c-- {
		wantErrno(t, s, open(c), api.OK)
		wantErrno(t, s, open(c), api.ErrTwice)
		at := api.MaxConns - c
		wantLines(t, s, at, lineOpen(c))
		if got := s.States(); len(got) != 4+at || got[3+at] != api.TReady {
			t.Fatalf("States: %v", got)
		}
	}
	do(t, s, cut(5))
	settle(t, s)
	wantErrno(t, s, open(5), api.ErrTwice)
	for task, state := range s.States() {
		want := api.TWaiting
		if task == 3+api.MaxConns-5 {
			want = api.TEnded
		}
		if state != want {
			t.Errorf("task %d: %d", task, state)
		}
	}
}

// P1802: ErrDown is ahead of net's errors.
func TestOpenWhenDown(t *testing.T) {
	s := newServer(t, small())
	do(t, s, open(1), stop())
	for _, c := range []int{-1, 0, 1, 2, 64, 65, math.MaxInt} {
		wantErrno(t, s, open(c), api.ErrDown)
	}
	wantLines(t, s, 0, lineOpen(1))
	wantStates(t, s, 1, 1, 1, 1)
}

// P1802: what is done to connections that are none, were not opened, are closed, are cut.
func TestConnsThatAreNot(t *testing.T) {
	s := resting(t, small(), 1, 2)
	do(t, s, cut(2), send(1, []byte{0, 0, 0, 0}))
	settle(t, s)
	for c, want := range map[int][4]api.Errno{ // send, bring, fetch, cut
		-1: {api.ErrArg, api.ErrArg, api.ErrArg, api.ErrArg},
		0:  {api.ErrArg, api.ErrArg, api.ErrArg, api.ErrArg},
		65: {api.ErrArg, api.ErrArg, api.ErrArg, api.ErrArg},
		3:  {api.ErrGone, api.ErrGone, api.ErrGone, api.ErrGone},
		2:  {api.ErrGone, api.OK, api.OK, api.ErrGone},
		1:  {api.ErrGone, api.OK, api.OK, api.OK},
	} {
		wantErrno(t, s, send(c, []byte{1}), want[0])
		wantErrno(t, s, bring(c, 1), want[1])
		wantErrno(t, s, fetch(c, 1), want[2])
		wantErrno(t, s, cut(c), want[3])
	}
	wantErrno(t, s, cut(1), api.ErrGone)
}

// P1802: ESend: nobody is woken, and MaxWay bytes may be under way.
func TestSend(t *testing.T) {
	s := resting(t, small(), 1, 2)
	wantErrno(t, s, send(1, make([]byte, api.MaxWay+1)), api.ErrMany)
	wantErrno(t, s, send(1, make([]byte, api.MaxWay-1)), api.OK)
	wantErrno(t, s, send(1, make([]byte, 2)), api.ErrMany)
	wantErrno(t, s, send(1, nil), api.OK)
	wantErrno(t, s, send(1, make([]byte, 1)), api.OK)
	wantErrno(t, s, send(2, make([]byte, 9)), api.OK)
	wantStates(t, s, 3, 3, 3, 3, 3)
}

// P2: the bytes that are sent are neither changed nor kept, their spare room neither.
func TestDataIsNotKept(t *testing.T) {
	s := resting(t, small(), 1)
	b := framed(t, stats(3))
	whole := append(make([]byte, 0, 99), b...)
	do(t, s, send(1, whole))
	wantBytes(t, whole, b)
	clear(whole[:99])
	do(t, s, bring(1, 99))
	settle(t, s)
	wantResponses(t, s, 1, counts(3, api.Stats{Now: 1}))
	wantBytes(t, whole[:99], make([]byte, 99))
}

// P1802: EBring wakes the connection, if bytes came, and that one alone.
func TestBring(t *testing.T) {
	s := resting(t, with(func(c *api.Config) { c.In = 4 }), 2, 1)
	wantErrno(t, s, bring(1, 9), api.OK)
	do(t, s, send(1, make([]byte, 3)), send(2, make([]byte, 9)))
	for _, n := range []int{0, -1, math.MinInt} {
		wantErrno(t, s, bring(1, n), api.OK)
	}
	wantStates(t, s, 3, 3, 3, 3, 3)
	do(t, s, bring(1, 1))
	wantStates(t, s, 3, 3, 3, 3, 1)
	do(t, s, pick(0), bring(2, math.MaxInt))
	wantStates(t, s, 3, 3, 3, 1, 3)
	do(t, s, send(1, make([]byte, 9)), bring(1, 9))
	wantStates(t, s, 3, 3, 3, 1, 1)
}

// P1802: EFetch wakes the connection, if bytes went, and that one alone.
func TestFetch(t *testing.T) {
	s := resting(t, with(func(c *api.Config) { c.Out = 4 }), 1, 2)
	ask(t, s, 1, stats(0), stats(0))
	ask(t, s, 2, stats(0))
	for range 30 {
		do(t, s, pick(0))
	}
	wantStates(t, s, 3, 3, 3, 3, 3)
	for _, n := range []int{0, -1, math.MinInt} {
		wantErrno(t, s, fetch(2, n), api.OK)
	}
	wantStates(t, s, 3, 3, 3, 3, 3)
	do(t, s, fetch(2, 1))
	wantStates(t, s, 3, 3, 3, 3, 1)
	do(t, s, fetch(1, math.MaxInt))
	wantStates(t, s, 3, 3, 3, 1, 1)
	b, _ := s.Heard(1)
	wantBytes(t, b, []byte{0, 0, 0, 8})
	b, _ = s.Heard(2)
	wantBytes(t, b, []byte{0})
}

// P1802: EBring wakes who waits with an answer, too, and EFetch who waits for a request: they look, and wait on.
func TestWokenForNothing(t *testing.T) {
	s := resting(t, with(func(c *api.Config) { c.Out, c.In = 4, 9 }), 1)
	ask(t, s, 1, pin(0))
	do(t, s, pick(0), pick(0), pick(0), pick(0))
	wantStates(t, s, 3, 3, 3, 3)
	do(t, s, send(1, []byte{0, 0}), bring(1, 1))
	wantStates(t, s, 3, 3, 3, 1)
	before := s.Lines(0)
	do(t, s, pick(0))
	wantStates(t, s, 3, 3, 3, 3)
	wantLines(t, s, 0, before...)
	do(t, s, fetch(1, 3), pick(0), pick(0))
	wantStates(t, s, 3, 3, 3, 3)
	do(t, s, fetch(1, 1))
	wantStates(t, s, 3, 3, 3, 1)
	do(t, s, pick(0))
	wantStates(t, s, 3, 3, 3, 3)
	wantLines(t, s, len(before), lineAnswer(1, 0, sealed(0, 1)))
}

// P1802: ECut wakes the connection alone.
func TestCut(t *testing.T) {
	s := resting(t, small(), 1, 2, 3)
	wantErrno(t, s, cut(2), api.OK)
	wantStates(t, s, 3, 3, 3, 3, 1, 3)
	wantEnd(t, s, 2, true)
	wantEnd(t, s, 1, false)
	wantErrno(t, s, cut(2), api.ErrGone)
}

// P1802: EStop wakes all connections, and nobody else; it is done once.
func TestStop(t *testing.T) {
	s := resting(t, small(), 64, 1, 30)
	wantErrno(t, s, stop(), api.OK)
	wantStates(t, s, 3, 3, 3, 1, 1, 1)
	settle(t, s)
	wantStates(t, s, 3, 3, 3, 4, 4, 4)
	wantErrno(t, s, stop(), api.ErrTwice)
	wantErrno(t, s, feed(0, "a", 1, 1), api.OK)
	settle(t, s)
	wantMap(t, s, row("a", 0, 1))
}

// P1802: EPick picks as the sched does, and is OK also if nobody is ready.
func TestPick(t *testing.T) {
	for n, want := range map[int][]int{
		0: {3, 1, 1, 1}, 3: {1, 1, 1, 3}, -1: {1, 1, 1, 3}, 5: {1, 3, 1, 1}, -7: {1, 3, 1, 1},
		math.MinInt: {3, 1, 1, 1}, math.MaxInt: {1, 1, 1, 3},
	} {
		s := newServer(t, small())
		do(t, s, open(1), pick(n))
		wantStates(t, s, want...)
	}
	s := resting(t, small())
	for _, n := range []int{0, 1, -1, math.MinInt, math.MaxInt} {
		wantErrno(t, s, pick(n), api.OK)
	}
	wantStates(t, s, 3, 3, 3)
}
