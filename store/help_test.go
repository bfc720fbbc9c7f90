package store_test

import (
	"bytes"
	"cmp"
	"fmt"
	"hash/fnv"
	"math"
	"math/rand/v2"
	"slices"
	"strings"
	"testing"

	"spate/api"
	"spate/shard"
	"spate/store"
)

// apart is a store as the promises say it: lone shards, of which each key has one by the library's hash.
type apart []*shard.Shard

func (p apart) route(key string) int {
	h := fnv.New64a()
	h.Write([]byte(key))
	return int(h.Sum64() % uint64(len(p)))
}

func (p apart) of(key string) *shard.Shard {
	return p[p.route(key)]
}

func (p apart) fits(epoch int, cells []api.Cell) bool {
	for n, one := range p {
		var own []api.Cell
		for _, c := range cells {
			if p.route(c.Key) == n {
				own = append(own, c)
			}
		}
		if !one.Fits(epoch, own) {
			return false
		}
	}
	return true
}

// scan sorts all that the shards have there.
func (p apart) scan(epoch int, from, to api.Cell, most int) []api.Row {
	var all []api.Row
	for _, one := range p {
		all = append(all, one.Range(epoch, from, to, math.MaxInt)...)
	}
	slices.SortFunc(all, byRow)
	return all[:min(max(most, 0), len(all))]
}

func (p apart) cells() int {
	n := 0
	for _, one := range p {
		n += one.Cells()
	}
	return n
}

func (p apart) most() int {
	n := 0
	for _, one := range p {
		n = max(n, one.Most())
	}
	return n
}

func byRow(a, b api.Row) int {
	if a.View != b.View {
		return cmp.Compare(a.View, b.View)
	}
	if n := bytes.Compare([]byte(a.Key), []byte(b.Key)); n != 0 {
		return n
	}
	return cmp.Compare(a.Start, b.Start)
}

// both is a store and its likeness: what is called on it is called on both, and their answers are held against each other.
type both struct {
	t *testing.T
	s *store.Store
	p apart
}

func newBoth(t *testing.T, shards, slots int) both {
	t.Helper()
	b := both{t: t, s: newStore(t, shards, slots)}
	for range shards {
		b.p = append(b.p, newShard(t, slots))
	}
	return b
}

func newStore(t *testing.T, shards, slots int) *store.Store {
	t.Helper()
	s, errno := store.New(shards, slots)
	if errno != api.OK || s == nil {
		t.Fatalf("New(%d, %d): %v", shards, slots, errno)
	}
	return s
}

func newShard(t *testing.T, slots int) *shard.Shard {
	t.Helper()
	s, errno := shard.New(slots)
	if errno != api.OK {
		t.Fatalf("shard.New(%d): %v", slots, errno)
	}
	return s
}

func (b both) put(epoch int, r api.Row) api.Errno {
	b.t.Helper()
	want := b.p.of(r.Key).Put(epoch, r)
	wantPut(b.t, b.s, epoch, r, want)
	b.numbers()
	return want
}

func (b both) kill(epoch int, c api.Cell) api.Errno {
	b.t.Helper()
	want := b.p.of(c.Key).Kill(epoch, c)
	wantKill(b.t, b.s, epoch, c, want)
	b.numbers()
	return want
}

func (b both) prune(n int, held ...int) int {
	b.t.Helper()
	want := b.p[n].Prune(held)
	wantPrune(b.t, b.s, n, held, want)
	b.numbers()
	return want
}

// load puts the rows into the likeness one behind the other.
func (b both) load(crew, epoch int, rows []api.Row) []api.Errno {
	b.t.Helper()
	var want []api.Errno
	for _, r := range rows {
		want = append(want, b.p.of(r.Key).Put(epoch, r))
	}
	wantLoad(b.t, b.s, crew, epoch, rows, want...)
	b.numbers()
	return want
}

func (b both) fits(epoch int, cells ...api.Cell) bool {
	b.t.Helper()
	want := b.p.fits(epoch, cells)
	wantFits(b.t, b.s, epoch, cells, want)
	return want
}

// rows asks for those of each shard, and for all of them; it tells how many there are.
func (b both) rows(epoch int, from, to api.Cell, most int) int {
	b.t.Helper()
	for n, one := range b.p {
		wantRange(b.t, b.s, n, epoch, from, to, most, one.Range(epoch, from, to, most)...)
	}
	want := b.p.scan(epoch, from, to, most)
	wantScan(b.t, b.s, epoch, from, to, most, want...)
	return len(want)
}

func (b both) numbers() {
	b.t.Helper()
	for n, one := range b.p {
		wantUnits(b.t, b.s, n, one.Units())
	}
	wantCounts(b.t, b.s, b.p.cells(), b.p.most())
}

// same asks that all that can be told of a store is as of its likeness, at epochs up to one, of these cells and of all that are there.
func (b both) same(top int, cells ...api.Cell) {
	b.t.Helper()
	b.numbers()
	for _, epoch := range append(wrongEpochs(), upTo(top+1)...) {
		for _, c := range cells {
			wantAt(b.t, b.s, c, epoch, b.p.of(c.Key).At(c, epoch))
		}
		b.rows(epoch, lowest, highest, math.MaxInt)
	}
}

func upTo(top int) []int {
	var all []int
	for epoch := 1; epoch <= top; epoch++ {
		all = append(all, epoch)
	}
	return all
}

func wantPut(t *testing.T, s *store.Store, epoch int, r api.Row, want api.Errno) {
	t.Helper()
	if errno := s.Put(epoch, r); errno != want {
		t.Errorf("Put(%d, %s %v): %v; want %v", epoch, short(r.Cell), r.Agg, errno, want)
	}
}

func wantKill(t *testing.T, s *store.Store, epoch int, c api.Cell, want api.Errno) {
	t.Helper()
	if errno := s.Kill(epoch, c); errno != want {
		t.Errorf("Kill(%d, %s): %v; want %v", epoch, short(c), errno, want)
	}
}

func wantPrune(t *testing.T, s *store.Store, n int, held []int, want int) {
	t.Helper()
	if gone := s.Prune(n, held); gone != want {
		t.Errorf("Prune(%d, %v): %d; want %d", n, held, gone, want)
	}
}

func wantFits(t *testing.T, s *store.Store, epoch int, cells []api.Cell, want bool) {
	t.Helper()
	if fits := s.Fits(epoch, cells); fits != want {
		t.Errorf("Fits(%d) of %d cells: %v; want %v", epoch, len(cells), fits, want)
	}
}

func wantAt(t *testing.T, s *store.Store, c api.Cell, epoch int, want api.Agg) {
	t.Helper()
	if v := s.At(c, epoch); v != want {
		t.Errorf("At(%s, %d): %v; want %v", short(c), epoch, v, want)
	}
	if epoch != 0 {
		return
	}
	if v := s.Get(c); v != want {
		t.Errorf("Get(%s): %v; want %v", short(c), v, want)
	}
}

func wantRange(t *testing.T, s *store.Store, n, epoch int, from, to api.Cell, most int, want ...api.Row) {
	t.Helper()
	if rows := s.Range(n, epoch, from, to, most); !slices.Equal(rows, want) {
		t.Errorf("Range(%d, %d, %s, %s, %d): %v; want %v", n, epoch, short(from), short(to), most, rows, want)
	}
}

func wantScan(t *testing.T, s *store.Store, epoch int, from, to api.Cell, most int, want ...api.Row) {
	t.Helper()
	if rows := s.Scan(epoch, from, to, most); !slices.Equal(rows, want) {
		t.Errorf("Scan(%d, %s, %s, %d): %v; want %v", epoch, short(from), short(to), most, rows, want)
	}
}

func wantUnits(t *testing.T, s *store.Store, n, want int) {
	t.Helper()
	if units := s.Units(n); units != want {
		t.Errorf("Units(%d): %d; want %d", n, units, want)
	}
}

func wantCounts(t *testing.T, s *store.Store, cells, most int) {
	t.Helper()
	if s.Cells() != cells || s.Most() != most {
		t.Errorf("Cells %d, Most %d; want %d, %d", s.Cells(), s.Most(), cells, most)
	}
}

func wantLoad(t *testing.T, s *store.Store, crew, epoch int, rows []api.Row, want ...api.Errno) {
	t.Helper()
	told, errno := s.Load(crew, epoch, rows)
	if errno != api.OK || !slices.Equal(told, want) {
		t.Errorf("Load(%d, %d) of %d rows: %v, %v; want %v", crew, epoch, len(rows), told, errno, want)
	}
}

// short is a cell in a remark, though its key be long.
func short(c api.Cell) string {
	return fmt.Sprintf("{%d %.40q %d}", c.View, c.Key, c.Start)
}

// Those of the chapter's examples (of two shards a, c and e have the first, b, d and f the other), and bounds around all cells that there are.
var (
	a = api.Cell{Key: "a"}
	b = api.Cell{Key: "b"}
	c = api.Cell{Key: "c"}
	d = api.Cell{Key: "d"}
	e = api.Cell{Key: "e"}
	f = api.Cell{Key: "f"}
	x = api.Agg{Count: 1, Sum: 5, Min: 5, Max: 5}
	y = api.Agg{Count: 2, Sum: 5, Min: 2, Max: 3}

	lowest  = api.Cell{View: math.MinInt}
	highest = api.Cell{View: math.MaxInt}
)

func row(c api.Cell, v api.Agg) api.Row {
	return api.Row{Cell: c, Agg: v}
}

// rowsOf are these cells, all with x.
func rowsOf(cells ...api.Cell) []api.Row {
	var rows []api.Row
	for _, c := range cells {
		rows = append(rows, row(c, x))
	}
	return rows
}

// someKeys may be: fronts of one another, with noughts and highest bytes, the longest ones.
func someKeys() []string {
	long := strings.Repeat("k", 32)
	keys := []string{"a\x00", "a\x00\x00", "a\x00\x01", "a\x00\xff", "a\x01", "a\xff", "ab", "\x00", "\x00\x00", "\x01", "\xff", "\xff\xff", "é", long, long[:31], long[:31] + "\x00", string(make([]byte, 32)), strings.Repeat("\xff", 32)}
	for letter := 'a'; letter <= 'z'; letter++ {
		keys = append(keys, string(letter))
	}
	return keys
}

func someCells() []api.Cell {
	var all []api.Cell
	for view := range 4 {
		for _, key := range someKeys() {
			for _, start := range []int64{-1 << 61, -1, 0, 1, 256, 1 << 61} {
				all = append(all, api.Cell{View: view, Key: key, Start: start})
			}
		}
	}
	return all
}

// fewCells are so few that the same ones are met again and again.
func fewCells(r *rand.Rand, n int) []api.Cell {
	all := someCells()
	r.Shuffle(len(all), func(i, j int) { all[i], all[j] = all[j], all[i] })
	return all[:n]
}

func wrongCells() []api.Cell {
	long := strings.Repeat("k", 33)
	return []api.Cell{
		{View: -1, Key: "a"}, {View: 4, Key: "b"}, {View: math.MinInt}, {View: math.MaxInt, Key: long, Start: math.MaxInt64},
		{}, {View: 3}, {Key: long}, {Key: string(make([]byte, 33)), Start: math.MinInt64}, {Key: string(make([]byte, 1<<16))},
		{Key: "a", Start: -1<<61 - 1}, {Key: "b", Start: 1<<61 + 1}, {Key: "c", Start: math.MinInt64}, {Key: "d", Start: math.MaxInt64},
	}
}

// wrongAggs are none of any values, or that of none.
func wrongAggs() []api.Agg {
	return []api.Agg{{}, {Count: -1}, {Sum: 1}, {Count: 1, Sum: 1}, {Count: 2, Sum: 9, Min: 2, Max: 3}}
}

// wrongEpochs may not be written at.
func wrongEpochs() []int {
	return []int{math.MinInt, -1, 0, 1<<40 + 1, math.MaxInt}
}

// anyInts are numbers of which a few are counts, shards or epochs.
func anyInts() []int {
	return []int{math.MinInt, -1 << 32, -1, 0, 1, 2, 3, 8, 9, 16, 17, 1 << 20, 1 << 32, 1 << 40, math.MaxInt}
}

func anyAgg(r *rand.Rand) api.Agg {
	n, v := 1+int64(r.IntN(3)), int64(r.IntN(4))-1
	return api.Agg{Count: n, Sum: n * v, Min: v, Max: v}
}

// anyRow is now and then none that may be put.
func anyRow(r *rand.Rand, cells []api.Cell) api.Row {
	one := row(cells[r.IntN(len(cells))], anyAgg(r))
	switch r.IntN(40) {
	case 0:
		one.Cell = wrongCells()[r.IntN(len(wrongCells()))]
	case 1:
		one.Agg = wrongAggs()[r.IntN(len(wrongAggs()))]
	}
	return one
}

func anyRows(r *rand.Rand, n int, cells []api.Cell) []api.Row {
	var rows []api.Row
	for range n {
		rows = append(rows, anyRow(r, cells))
	}
	return rows
}

func anyHeld(r *rand.Rand, top int) []int {
	var held []int
	for range r.IntN(4) {
		held = append(held, r.IntN(top+3)-1)
	}
	return held
}

// step does one write by chance around an epoch; it tells what came of it.
func (b both) step(r *rand.Rand, epoch int, cells []api.Cell) api.Errno {
	b.t.Helper()
	one := anyRow(r, cells)
	epoch += r.IntN(3) - 1
	if r.IntN(30) == 0 {
		epoch = wrongEpochs()[r.IntN(len(wrongEpochs()))]
	}
	if r.IntN(3) == 0 {
		return b.kill(epoch, one.Cell)
	}
	return b.put(epoch, one)
}

// anyBoth is a store of some of these cells, written at epochs up to one.
func anyBoth(t *testing.T, r *rand.Rand, shards, slots, top int, cells []api.Cell) both {
	t.Helper()
	b := newBoth(t, shards, slots)
	for epoch := 1; epoch <= top; epoch++ {
		for range r.IntN(2 * len(cells)) {
			b.step(r, epoch, cells)
		}
		if r.IntN(4) == 0 {
			b.prune(r.IntN(shards), anyHeld(r, epoch)...)
		}
	}
	return b
}
