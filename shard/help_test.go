package shard_test

import (
	"bytes"
	"cmp"
	"fmt"
	"maps"
	"math"
	"math/rand/v2"
	"slices"
	"strings"
	"testing"

	"spate/api"
	"spate/shard"
)

// version is one of a cell; of a tombstone the Agg is the zero one.
type version struct {
	epoch int
	agg   api.Agg
}

func (v version) there() bool {
	return v.agg != api.Agg{}
}

// plain is a shard as the promises say it: of each cell a list of versions; all else is reckoned when it is asked for.
type plain struct {
	slots int
	cells map[api.Cell][]version
}

func newPlain(slots int) *plain {
	return &plain{slots, map[api.Cell][]version{}}
}

// newest is that at or below an epoch; false, if there is none.
func newest(l []version, epoch int) (version, bool) {
	for _, v := range slices.Backward(l) {
		if v.epoch <= epoch {
			return v, true
		}
	}
	return version{}, false
}

func (p *plain) at(c api.Cell, epoch int) api.Agg {
	if epoch == 0 {
		epoch = math.MaxInt
	}
	v, _ := newest(p.cells[c], epoch)
	return v.agg
}

func (p *plain) there() int {
	n := 0
	for c := range p.cells {
		if p.at(c, 0) != (api.Agg{}) {
			n++
		}
	}
	return n
}

func (p *plain) units() int {
	n := p.there()
	for _, l := range p.cells {
		n += len(l)
	}
	return n
}

func (p *plain) most() int {
	n := 0
	for _, l := range p.cells {
		n = max(n, len(l))
	}
	return n
}

// wrong is the first error of a cell and an epoch that may not be.
func wrong(epoch int, c api.Cell) api.Errno {
	switch {
	case !slices.Contains([]int{0, 1, 2, 3}, c.View):
		return api.ErrView
	case c.Key == "" || len(c.Key) > 32:
		return api.ErrKey
	case c.Start < -1<<61 || c.Start > 1<<61:
		return api.ErrTime
	case epoch < 1 || epoch > 1<<40:
		return api.ErrArg
	}
	return api.OK
}

// write is a list of versions behind one more, or one other.
func write(l []version, v version) []version {
	if n := len(l); n > 0 && l[n-1].epoch == v.epoch {
		l = l[:n-1]
	}
	return append(slices.Clone(l), v)
}

func (p *plain) put(epoch int, c api.Cell, v api.Agg) api.Errno {
	if errno := wrong(epoch, c); errno != api.OK {
		return errno
	}
	if v == (api.Agg{}) || slices.Contains(wrongAggs(), v) {
		return api.ErrArg
	}
	old := p.cells[c]
	if last, any := newest(old, math.MaxInt); any && last.epoch > epoch {
		return api.ErrOld
	}
	p.cells[c] = write(old, version{epoch, v})
	if p.units() > p.slots {
		p.cells[c] = old
		if old == nil {
			delete(p.cells, c)
		}
		return api.ErrFull
	}
	return api.OK
}

func (p *plain) kill(epoch int, c api.Cell) api.Errno {
	if errno := wrong(epoch, c); errno != api.OK {
		return errno
	}
	if last, any := newest(p.cells[c], math.MaxInt); any && last.epoch > epoch {
		return api.ErrOld
	}
	if p.at(c, 0) == (api.Agg{}) {
		return api.ErrGone
	}
	p.cells[c] = write(p.cells[c], version{epoch: epoch})
	return api.OK
}

// need goes by the promise's cases, one by one.
func (p *plain) need(epoch int, cells []api.Cell) int {
	unlike := map[api.Cell]int{}
	for _, c := range cells {
		last, any := newest(p.cells[c], math.MaxInt)
		switch {
		case wrong(epoch, c) != api.OK:
			unlike[c] = 0
		case !any, !last.there() && last.epoch < epoch:
			unlike[c] = 2
		case !last.there() && last.epoch == epoch, last.there() && last.epoch < epoch:
			unlike[c] = 1
		default:
			unlike[c] = 0
		}
	}
	n := 0
	for _, need := range unlike {
		n += need
	}
	return n
}

func byCell(a, b api.Cell) int {
	if a.View != b.View {
		return cmp.Compare(a.View, b.View)
	}
	if n := bytes.Compare([]byte(a.Key), []byte(b.Key)); n != 0 {
		return n
	}
	return cmp.Compare(a.Start, b.Start)
}

func (p *plain) rows(epoch int, from, to api.Cell, most int) []api.Row {
	var all []api.Row
	for _, c := range slices.SortedFunc(maps.Keys(p.cells), byCell) {
		v := p.at(c, epoch)
		if v != (api.Agg{}) && byCell(from, c) <= 0 && byCell(c, to) < 0 {
			all = append(all, api.Row{Cell: c, Agg: v})
		}
	}
	return all[:min(max(most, 0), len(all))]
}

func (p *plain) prune(held []int) int {
	before := p.units()
	for c, l := range p.cells {
		var stay []version
		for i, v := range l {
			needed := i == len(l)-1
			for _, h := range held {
				of, any := newest(l, h)
				needed = needed || any && of == v
			}
			if needed {
				stay = append(stay, v)
			}
		}
		p.cells[c] = stay
		if len(stay) == 1 && !stay[0].there() {
			delete(p.cells, c)
		}
	}
	return before - p.units()
}

// both is a shard and its plain likeness: what is called on it is called on both, and their answers are held against each other.
type both struct {
	t *testing.T
	s *shard.Shard
	p *plain
}

func newBoth(t *testing.T, slots int) both {
	t.Helper()
	return both{t, newShard(t, slots), newPlain(slots)}
}

func newShard(t *testing.T, slots int) *shard.Shard {
	t.Helper()
	s, errno := shard.New(slots)
	if errno != api.OK {
		t.Fatalf("New(%d): %v", slots, errno)
	}
	return s
}

func (b both) put(epoch int, c api.Cell, v api.Agg) api.Errno {
	b.t.Helper()
	want := b.p.put(epoch, c, v)
	wantPut(b.t, b.s, epoch, c, v, want)
	b.numbers()
	return want
}

func (b both) kill(epoch int, c api.Cell) api.Errno {
	b.t.Helper()
	want := b.p.kill(epoch, c)
	wantKill(b.t, b.s, epoch, c, want)
	b.numbers()
	return want
}

func (b both) prune(held ...int) int {
	b.t.Helper()
	want := b.p.prune(held)
	wantPrune(b.t, b.s, held, want)
	b.numbers()
	return want
}

func (b both) need(epoch int, cells ...api.Cell) int {
	b.t.Helper()
	want := b.p.need(epoch, cells)
	wantNeed(b.t, b.s, epoch, cells, want)
	wantFits(b.t, b.s, epoch, cells, b.p.units()+want <= b.p.slots)
	return want
}

func (b both) rows(epoch int, from, to api.Cell, most int) int {
	b.t.Helper()
	want := b.p.rows(epoch, from, to, most)
	wantRows(b.t, b.s, epoch, from, to, most, want...)
	return len(want)
}

func (b both) numbers() {
	b.t.Helper()
	wantNumbers(b.t, b.s, b.p.units(), b.p.there(), b.p.most())
}

// same asks that all that can be told of a shard is as of its plain likeness.
func (b both) same(others ...api.Cell) {
	b.t.Helper()
	b.numbers()
	epochs := []int{math.MinInt, -1, 0, 1, 1 << 40, math.MaxInt}
	for c, l := range b.p.cells {
		others = append(others, c)
		for _, v := range l {
			epochs = append(epochs, v.epoch-1, v.epoch, v.epoch+1)
		}
	}
	slices.Sort(epochs)
	for _, epoch := range slices.Compact(epochs) {
		for _, c := range others {
			wantAt(b.t, b.s, c, epoch, b.p.at(c, epoch))
		}
		b.rows(epoch, lowest, highest, math.MaxInt)
	}
}

func wantPut(t *testing.T, s *shard.Shard, epoch int, c api.Cell, v api.Agg, want api.Errno) {
	t.Helper()
	if errno := s.Put(epoch, api.Row{Cell: c, Agg: v}); errno != want {
		t.Errorf("Put(%d, %s %v): %v; want %v", epoch, short(c), v, errno, want)
	}
}

func wantKill(t *testing.T, s *shard.Shard, epoch int, c api.Cell, want api.Errno) {
	t.Helper()
	if errno := s.Kill(epoch, c); errno != want {
		t.Errorf("Kill(%d, %s): %v; want %v", epoch, short(c), errno, want)
	}
}

func wantPrune(t *testing.T, s *shard.Shard, held []int, want int) {
	t.Helper()
	if n := s.Prune(held); n != want {
		t.Errorf("Prune(%v): %d; want %d", held, n, want)
	}
}

func wantNeed(t *testing.T, s *shard.Shard, epoch int, cells []api.Cell, want int) {
	t.Helper()
	if n := s.Need(epoch, cells); n != want {
		t.Errorf("Need(%d) of %d cells: %d; want %d", epoch, len(cells), n, want)
	}
}

func wantFits(t *testing.T, s *shard.Shard, epoch int, cells []api.Cell, want bool) {
	t.Helper()
	if fits := s.Fits(epoch, cells); fits != want {
		t.Errorf("Fits(%d) of %d cells: %v; want %v", epoch, len(cells), fits, want)
	}
}

func wantAt(t *testing.T, s *shard.Shard, c api.Cell, epoch int, want api.Agg) {
	t.Helper()
	if v := s.At(c, epoch); v != want {
		t.Errorf("At(%s, %d): %v; want %v", short(c), epoch, v, want)
	}
	if v := s.Get(c); epoch == 0 && v != want {
		t.Errorf("Get(%s): %v; want %v", short(c), v, want)
	}
}

func wantRows(t *testing.T, s *shard.Shard, epoch int, from, to api.Cell, most int, want ...api.Row) {
	t.Helper()
	if rows := s.Range(epoch, from, to, most); !slices.Equal(rows, want) {
		t.Errorf("Range(%d, %s, %s, %d): %v; want %v", epoch, short(from), short(to), most, rows, want)
	}
}

func wantNumbers(t *testing.T, s *shard.Shard, units, cells, most int) {
	t.Helper()
	if s.Units() != units || s.Cells() != cells || s.Most() != most {
		t.Errorf("Units %d, Cells %d, Most %d; want %d, %d, %d", s.Units(), s.Cells(), s.Most(), units, cells, most)
	}
}

// short is a cell in a remark, though its key be long.
func short(c api.Cell) string {
	return fmt.Sprintf("{%d %.40q %d}", c.View, c.Key, c.Start)
}

// Those of the chapter's examples, and bounds around all cells that there are.
var (
	a = api.Cell{Key: "a"}
	b = api.Cell{Key: "b"}
	c = api.Cell{Key: "c"}
	x = api.Agg{Count: 1, Sum: 5, Min: 5, Max: 5}
	y = api.Agg{Count: 2, Sum: 5, Min: 2, Max: 3}

	lowest  = api.Cell{View: math.MinInt}
	highest = api.Cell{View: math.MaxInt}
)

// someCells may be: keys that are fronts of one another, with noughts and highest bytes, the longest ones; starts at their bounds, and around those of bytes.
func someCells() []api.Cell {
	long := strings.Repeat("k", 32)
	keys := []string{"a", "a\x00", "a\x00\x00", "a\x00\x00\x00", "a\x00\x01", "a\x00\xff", "a\x01", "a\xff", "ab", "b", "\x00", "\x00\x00", "\x00\x01", "\x01", "\xff", "\xff\xff", "é", long, long[:31], long[:31] + "\x00", string(make([]byte, 32)), strings.Repeat("\xff", 32)}
	starts := []int64{-1 << 61, -256, -255, -1, 0, 1, 255, 256, 1 << 32, 1 << 61}
	var all []api.Cell
	for view := range 4 {
		for _, key := range keys {
			for _, start := range starts {
				all = append(all, api.Cell{View: view, Key: key, Start: start})
			}
		}
	}
	return all
}

// fewCells are so few that the same ones are met again and again.
func fewCells(r *rand.Rand, n int) []api.Cell {
	all := someCells()
	r.Shuffle(len(all), func(i, j int) { all[i], all[j] = all[j], all[i] })
	return all[:n]
}

// wrongCells may not be; some of them have what may be in their lowest bytes.
func wrongCells() []api.Cell {
	long := strings.Repeat("k", 33)
	var all []api.Cell
	for _, view := range []int{-1, 4, 5, 255, 256, 1 << 32, -256, -1 << 32, math.MinInt, math.MaxInt} {
		all = append(all, api.Cell{View: view, Key: "a"}, api.Cell{View: view}, api.Cell{View: view, Key: long, Start: math.MaxInt64})
	}
	for _, key := range []string{"", long, string(make([]byte, 33)), string(make([]byte, 1<<20))} {
		all = append(all, api.Cell{Key: key}, api.Cell{View: 3, Key: key, Start: math.MinInt64})
	}
	for _, start := range []int64{-1<<61 - 1, 1<<61 + 1, math.MinInt64, math.MaxInt64, 1 << 62} {
		all = append(all, api.Cell{Key: "a", Start: start})
	}
	return all
}

// wrongAggs are none of any values.
func wrongAggs() []api.Agg {
	return []api.Agg{
		{Count: -1}, {Count: math.MinInt64, Sum: 1}, {Sum: 1}, {Min: 1}, {Max: 1},
		{Count: 1, Sum: 1}, {Count: 1, Sum: 5, Min: 5, Max: 6}, {Count: 2, Sum: 9, Min: 2, Max: 3},
		{Count: 2, Min: 1, Max: 1}, {Count: 3, Min: 1, Max: -1}, {Count: math.MaxInt64, Sum: 1, Min: 1, Max: 1},
	}
}

// wrongEpochs may not be written at.
func wrongEpochs() []int {
	return []int{math.MinInt, -1 << 40, -1, 0, 1<<40 + 1, 1 << 41, math.MaxInt}
}

// anyAgg is one of a few values; now and then they are noughts, of which only the Count is not 0.
func anyAgg(r *rand.Rand) api.Agg {
	v := int64(r.IntN(4)) - 1
	if r.IntN(2) == 0 {
		return api.Agg{Count: 1, Sum: v, Min: v, Max: v}
	}
	n := 2 + int64(r.IntN(3))
	return api.Agg{Count: n, Sum: n * v, Min: v, Max: v}
}

// anyHeld is a list around the epochs there are, in any order.
func anyHeld(r *rand.Rand, top int) []int {
	var held []int
	for range r.IntN(5) {
		held = append(held, r.IntN(top+3)-1)
	}
	if r.IntN(10) == 0 {
		held = append(held, wrongEpochs()...)
	}
	return held
}

// step does one write by chance around an epoch; it tells what came of it.
func (b both) step(r *rand.Rand, epoch int, cells []api.Cell) api.Errno {
	b.t.Helper()
	at, v := cells[r.IntN(len(cells))], anyAgg(r)
	epoch += r.IntN(3) - 1
	switch r.IntN(40) {
	case 0:
		epoch = wrongEpochs()[r.IntN(len(wrongEpochs()))]
	case 1:
		at = wrongCells()[r.IntN(len(wrongCells()))]
	case 2:
		v = wrongAggs()[r.IntN(len(wrongAggs()))]
	}
	if r.IntN(3) == 0 {
		return b.kill(epoch, at)
	}
	return b.put(epoch, at, v)
}

// anyBoth is a shard of some of these cells, written at epochs up to one.
func anyBoth(t *testing.T, r *rand.Rand, slots, top int, cells []api.Cell) both {
	t.Helper()
	b := newBoth(t, slots)
	for epoch := 1; epoch <= top; epoch++ {
		for range r.IntN(len(cells)) {
			b.step(r, epoch, cells)
		}
		if r.IntN(4) == 0 {
			b.prune(anyHeld(r, epoch)...)
		}
	}
	return b
}
