package flow_test

import (
	"hash/fnv"
	"math"
	"math/big"
	"math/rand/v2"
	"slices"
	"strings"
	"testing"

	"spate/api"
	"spate/flow"
)

// message is what Take tells beside OK.
type message struct {
	source int
	item   api.Item
}

// plain is the likeness of a flow: lists, and of each source's first item the operators that have it already.
type plain struct {
	box    int
	queues [][]api.Item
	had    [][]int
	boxes  [][]message
}

func newPlain(sources, operators, box int) *plain {
	return &plain{box, make([][]api.Item, sources), make([][]int, sources), make([][]message, operators)}
}

func isKey(key string) bool { return key != "" && len(key) <= 32 }

func isTime(time int64) bool { return -1<<60 <= time && time <= 1<<60 }

func (p *plain) put(source int, x api.Item) api.Errno {
	if source < 0 || source >= len(p.queues) {
		return api.ErrArg
	}
	if !x.Mark && !isKey(x.Key) {
		return api.ErrKey
	}
	if !isTime(x.Time) {
		return api.ErrTime
	}
	if x.Mark && x != mark(x.Time) {
		return api.ErrField
	}
	if len(p.queues[source]) >= 65536 {
		return api.ErrMany
	}
	p.queues[source] = append(p.queues[source], x)
	return api.OK
}

// highest tells the 32 bits on which a key's operator hangs, by the library's hash and numbers of any length.
func highest(key string) int64 {
	h := fnv.New64a()
	h.Write([]byte(key))
	n := new(big.Int).SetUint64(h.Sum64())
	n.Mul(n, new(big.Int).SetUint64(11400714819323198485))
	n.Mod(n, new(big.Int).Lsh(big.NewInt(1), 64))
	return n.Rsh(n, 32).Int64()
}

func (p *plain) route(key string) int {
	return int(highest(key) % int64(len(p.boxes)))
}

func (p *plain) toward(source int) (int, api.Errno) {
	if source < 0 || source >= len(p.queues) {
		return 0, api.ErrArg
	}
	if len(p.queues[source]) == 0 {
		return 0, api.ErrGone
	}
	if x := p.queues[source][0]; !x.Mark {
		return p.route(x.Key), api.OK
	}
	for operator := range p.boxes {
		if !slices.Contains(p.had[source], operator) {
			return operator, api.OK
		}
	}
	panic("a mark that all have is still there")
}

func (p *plain) pass(source int) (int, api.Errno) {
	operator, errno := p.toward(source)
	if errno != api.OK {
		return 0, errno
	}
	if len(p.boxes[operator]) == p.box {
		return 0, api.ErrWait
	}
	x := p.queues[source][0]
	p.boxes[operator] = append(p.boxes[operator], message{source, x})
	p.had[source] = append(p.had[source], operator)
	if !x.Mark || len(p.had[source]) == len(p.boxes) {
		p.queues[source], p.had[source] = p.queues[source][1:], nil
	}
	return operator, api.OK
}

func (p *plain) take(operator int) (message, api.Errno) {
	if operator < 0 || operator >= len(p.boxes) {
		return message{}, api.ErrArg
	}
	if len(p.boxes[operator]) == 0 {
		return message{}, api.ErrGone
	}
	m := p.boxes[operator][0]
	p.boxes[operator] = p.boxes[operator][1:]
	return m, api.OK
}

func newFlow(t *testing.T, sources, operators, box int) *flow.Flow {
	t.Helper()
	f, errno := flow.New(sources, operators, box)
	if errno != api.OK || f == nil {
		t.Fatalf("New(%d, %d, %d): %v, %v", sources, operators, box, f, errno)
	}
	return f
}

// both are a flow and its plain likeness; what is called is called of both, and held against each other.
type both struct {
	t *testing.T
	f *flow.Flow
	p *plain
}

func newBoth(t *testing.T, sources, operators, box int) both {
	t.Helper()
	return both{t, newFlow(t, sources, operators, box), newPlain(sources, operators, box)}
}

func (x both) put(source int, item api.Item) api.Errno {
	x.t.Helper()
	errno, want := x.f.Put(source, item), x.p.put(source, item)
	if errno != want {
		x.t.Fatalf("Put(%d, %v): %v; want %v", source, item, errno, want)
	}
	x.same()
	return errno
}

func (x both) pass(source int) (int, api.Errno) {
	x.t.Helper()
	operator, errno := x.f.Pass(source)
	wantOperator, want := x.p.pass(source)
	if operator != wantOperator || errno != want {
		x.t.Fatalf("Pass(%d): %d, %v; want %d, %v", source, operator, errno, wantOperator, want)
	}
	x.same()
	return operator, errno
}

func (x both) take(operator int) (message, api.Errno) {
	x.t.Helper()
	m, errno := take(x.f, operator)
	wantM, want := x.p.take(operator)
	if m != wantM || errno != want {
		x.t.Fatalf("Take(%d): %v, %v; want %v, %v", operator, m, errno, wantM, want)
	}
	x.same()
	return m, errno
}

// same asks all that changes nothing; also of sources and operators that are not.
func (x both) same() {
	x.t.Helper()
	for _, n := range anyNumbers() {
		operator, errno := x.f.Toward(n)
		if wantOperator, want := x.p.toward(n); operator != wantOperator || errno != want {
			x.t.Fatalf("Toward(%d): %d, %v; want %d, %v", n, operator, errno, wantOperator, want)
		}
		if got, want := x.f.Queued(n), lenOf(x.p.queues, n); got != want {
			x.t.Fatalf("Queued(%d): %d; want %d", n, got, want)
		}
		if got, want := x.f.Boxed(n), lenOf(x.p.boxes, n); got != want {
			x.t.Fatalf("Boxed(%d): %d; want %d", n, got, want)
		}
	}
	if got, want := x.f.Empty(), len(slices.Concat(x.p.queues...)) == 0 && len(slices.Concat(x.p.boxes...)) == 0; got != want {
		x.t.Fatalf("Empty: %v; want %v", got, want)
	}
}

// lenOf is 0 of a list that is not.
func lenOf[T any](lists [][]T, n int) int {
	if n < 0 || n >= len(lists) {
		return 0
	}
	return len(lists[n])
}

// drain passes and takes till nothing is left, and tells what each operator took.
func (x both) drain() [][]message {
	x.t.Helper()
	all := make([][]message, len(x.p.boxes))
	for !x.f.Empty() {
		for source := range x.p.queues {
			x.pass(source)
		}
		for operator := range all {
			if m, errno := x.take(operator); errno == api.OK {
				all[operator] = append(all[operator], m)
			}
		}
	}
	return all
}

func take(f *flow.Flow, operator int) (message, api.Errno) {
	source, x, errno := f.Take(operator)
	return message{source, x}, errno
}

func event(key string, time int64) api.Item { return api.Item{Key: key, Time: time, Value: 1} }

func mark(time int64) api.Item { return api.Item{Mark: true, Time: time} }

// numbered are events of one key, which differ by their times.
func numbered(key string, from, n int) []api.Item {
	var all []api.Item
	for i := range n {
		all = append(all, event(key, int64(from+i)))
	}
	return all
}

func wantPut(t *testing.T, f *flow.Flow, source int, items ...api.Item) {
	t.Helper()
	for _, x := range items {
		if errno := f.Put(source, x); errno != api.OK {
			t.Fatalf("Put(%d, %v): %v", source, x, errno)
		}
	}
}

func wantNoPut(t *testing.T, f *flow.Flow, source int, x api.Item, why api.Errno) {
	t.Helper()
	if errno := f.Put(source, x); errno != why {
		t.Errorf("Put(%d, %v): %v; want %v", source, x, errno, why)
	}
}

// wantPass asks Toward first: both tell the same box.
func wantPass(t *testing.T, f *flow.Flow, source, operator int) {
	t.Helper()
	if got, errno := f.Toward(source); got != operator || errno != api.OK {
		t.Errorf("Toward(%d): %d, %v; want %d", source, got, errno, operator)
	}
	if got, errno := f.Pass(source); got != operator || errno != api.OK {
		t.Errorf("Pass(%d): %d, %v; want %d", source, got, errno, operator)
	}
}

func wantNoPass(t *testing.T, f *flow.Flow, source int, why api.Errno) {
	t.Helper()
	if got, errno := f.Pass(source); got != 0 || errno != why {
		t.Errorf("Pass(%d): %d, %v; want %v", source, got, errno, why)
	}
}

func wantToward(t *testing.T, f *flow.Flow, source, operator int, why api.Errno) {
	t.Helper()
	if got, errno := f.Toward(source); got != operator || errno != why {
		t.Errorf("Toward(%d): %d, %v; want %d, %v", source, got, errno, operator, why)
	}
}

func wantTake(t *testing.T, f *flow.Flow, operator, source int, x api.Item) {
	t.Helper()
	if m, errno := take(f, operator); m != (message{source, x}) || errno != api.OK {
		t.Errorf("Take(%d): %v, %v; want %v of %d", operator, m, errno, x, source)
	}
}

func wantNoTake(t *testing.T, f *flow.Flow, operator int, why api.Errno) {
	t.Helper()
	if m, errno := take(f, operator); m != (message{}) || errno != why {
		t.Errorf("Take(%d): %v, %v; want %v", operator, m, errno, why)
	}
}

// wantCounts holds Queued, Boxed and Empty against what is asked.
func wantCounts(t *testing.T, f *flow.Flow, queued, boxed []int) {
	t.Helper()
	for source, want := range queued {
		if got := f.Queued(source); got != want {
			t.Errorf("Queued(%d): %d; want %d", source, got, want)
		}
	}
	for operator, want := range boxed {
		if got := f.Boxed(operator); got != want {
			t.Errorf("Boxed(%d): %d; want %d", operator, got, want)
		}
	}
	if got, want := f.Empty(), slices.Max(queued) == 0 && slices.Max(boxed) == 0; got != want {
		t.Errorf("Empty: %v; want %v", got, want)
	}
}

// anyNumbers are numbers of sources and operators, and such as are none.
func anyNumbers() []int {
	return []int{0, 1, 2, 3, 4, 5, 6, 7, 8, 9, 16, 1 << 32, 1<<32 + 1, -1, -2, -8, -1 << 32, math.MinInt, math.MaxInt}
}

func wrongKeys() []string {
	return []string{"", strings.Repeat("k", 33), strings.Repeat("\x00", 64), strings.Repeat("é", 17), strings.Repeat("k", 1<<16)}
}

func rightKeys() []string {
	return []string{"a", "\x00", "\xff", " ", strings.Repeat("k", 31), strings.Repeat("k", 32), strings.Repeat("\x00", 32), strings.Repeat("\xff", 32), strings.Repeat("é", 16)}
}

func wrongTimes() []int64 {
	return []int64{1<<60 + 1, -1<<60 - 1, 1 << 61, -1 << 61, -1 << 62, math.MaxInt64, math.MinInt64}
}

func rightTimes() []int64 {
	return []int64{0, 1, -1, 1<<60 - 1, -1<<60 + 1, 1 << 60, -1 << 60}
}

func values() []int64 {
	return []int64{0, 1, -1, math.MaxInt64, math.MinInt64}
}

// anyItem is an event of one of few keys, or a mark, by chance; the time tells them apart.
func anyItem(r *rand.Rand, time int64) api.Item {
	if r.IntN(4) == 0 {
		return mark(time)
	}
	return api.Item{Key: string(rune('a' + r.IntN(12))), Time: time, Value: r.Int64N(9) - 4}
}

// wrongItem is one that may not be put, by chance.
func wrongItem(r *rand.Rand) api.Item {
	switch r.IntN(4) {
	case 0:
		return event(wrongKeys()[r.IntN(len(wrongKeys()))], 0)
	case 1:
		return event("a", wrongTimes()[r.IntN(len(wrongTimes()))])
	case 2:
		return mark(wrongTimes()[r.IntN(len(wrongTimes()))])
	}
	return api.Item{Mark: true, Key: "a", Value: r.Int64N(2)}
}
