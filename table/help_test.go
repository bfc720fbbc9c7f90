package table_test

import (
	"fmt"
	"hash/fnv"
	"maps"
	"math"
	"math/rand/v2"
	"slices"
	"testing"

	"spate/table"
)

// plain is a table as the promises say it: a key for each place of a row that is taken, and the values apart.
type plain struct {
	slots, elders, moved int
	row, elder           map[int]string
	gone                 map[int]bool
	values               map[string]string
}

func newPlain() *plain {
	return &plain{slots: 8, row: map[int]string{}, elder: map[int]string{}, gone: map[int]bool{}, values: map[string]string{}}
}

// home asks another one for the hash.
func home(key string, slots int) int {
	h := fnv.New64a()
	h.Write([]byte(key))
	return int(h.Sum64() % uint64(slots))
}

// from are a row's places from one on, all of them once.
func from(at, slots int) []int {
	var all []int
	for i := range slots {
		all = append(all, (at+i)%slots)
	}
	return all
}

// place goes through all places: a key lies at one, in one row.
func (p *plain) place(key string) (int, bool, bool) {
	for at, k := range p.row {
		if k == key {
			return at, false, true
		}
	}
	for at, k := range p.elder {
		if k == key {
			return at, true, true
		}
	}
	return 0, false, false
}

func (p *plain) lay(key string) {
	for _, at := range from(home(key, p.slots), p.slots) {
		if _, taken := p.row[at]; !taken {
			p.row[at] = key
			return
		}
	}
}

func (p *plain) left() int {
	return p.elders - p.moved
}

func (p *plain) move(places int) int {
	for ; places > 0 && p.moved < p.elders; places-- {
		if key, taken := p.elder[p.moved]; taken {
			delete(p.elder, p.moved)
			p.gone[p.moved] = true
			p.lay(key)
		}
		p.moved++
	}
	if p.moved == p.elders {
		p.moved, p.elders = 0, 0
		clear(p.gone)
	}
	return p.left()
}

func (p *plain) put(key, v string) {
	p.move(4)
	_, there := p.values[key]
	if !there {
		if 4*(len(p.values)+1) > 3*p.slots {
			p.move(p.elders)
			p.elder, p.elders, p.moved = p.row, p.slots, 0
			p.row, p.slots = map[int]string{}, 2*p.slots
		}
		p.lay(key)
	}
	p.values[key] = v
}

func (p *plain) drop(key string) (string, bool) {
	p.move(4)
	at, elder, there := p.place(key)
	if !there {
		return "", false
	}
	v := p.values[key]
	delete(p.values, key)
	if elder {
		delete(p.elder, at)
		p.gone[at] = true
		return v, true
	}
	p.mend(at)
	return v, true
}

// mend keeps the way from i to k as a list of places.
func (p *plain) mend(i int) {
	delete(p.row, i)
	var way []int
	for _, k := range from(i, p.slots)[1:] {
		key, taken := p.row[k]
		if !taken {
			return
		}
		way = append(way, k)
		if !slices.Contains(way, home(key, p.slots)) {
			delete(p.row, k)
			p.row[i] = key
			i, way = k, nil
		}
	}
}

func (p *plain) twin() *plain {
	q := *p
	q.row, q.elder, q.gone, q.values = maps.Clone(p.row), maps.Clone(p.elder), maps.Clone(p.gone), maps.Clone(p.values)
	return &q
}

// pair is what a sequence tells of a key.
type pair struct{ key, value string }

func (p *plain) pairs() []pair {
	var all []pair
	for _, k := range slices.Sorted(maps.Keys(p.values)) {
		all = append(all, pair{k, p.values[k]})
	}
	return all
}

func pairsOf(x *table.Table[string]) []pair {
	var all []pair
	for k, v := range x.All() {
		all = append(all, pair{k, v})
	}
	return all
}

// homed are n keys that are all at home at one place of 16 (and so of 8).
func homed(n, at int) []string {
	var all []string
	for i := 0; len(all) < n; i++ {
		if k := fmt.Sprint("h", i); home(k, 16) == at {
			all = append(all, k)
		}
	}
	return all
}

// both is a table and its plain likeness: what is called on it is called on both, and their answers are held against each other.
type both struct {
	t *testing.T
	x *table.Table[string]
	p *plain
}

func newBoth(t *testing.T) both {
	return both{t, table.New[string](), newPlain()}
}

func (b both) put(keys ...string) {
	b.t.Helper()
	for _, key := range keys {
		b.lay(key, "of "+key)
	}
}

func (b both) lay(key, v string) {
	b.t.Helper()
	b.x.Put(key, v)
	b.p.put(key, v)
	b.sizes()
}

func (b both) drop(key string) bool {
	b.t.Helper()
	want, is := b.p.drop(key)
	if v, there := b.x.Drop(key); v != want || there != is {
		b.t.Errorf("Drop(%q): %q, %v; want %q, %v", key, v, there, want, is)
	}
	b.sizes()
	return is
}

func (b both) move(places int) int {
	b.t.Helper()
	want := b.p.move(places)
	if left := b.x.Move(places); left != want {
		b.t.Errorf("Move(%d): %d; want %d", places, left, want)
	}
	b.sizes()
	return want
}

func (b both) sizes() {
	b.t.Helper()
	wantSizes(b.t, b.x, len(b.p.values), b.p.slots, b.p.left())
}

// same asks that all that can be told of a table is as of its plain likeness.
func (b both) same(others ...string) {
	b.t.Helper()
	b.sizes()
	want := b.p.pairs()
	if got := pairsOf(b.x); !slices.Equal(got, want) {
		b.t.Errorf("All: %v; want %v", got, want)
	}
	for _, w := range want {
		others = append(others, w.key)
	}
	for _, key := range others {
		v, there := b.p.values[key]
		wantGet(b.t, b.x, key, v, there)
		at, elder, there := b.p.place(key)
		wantPlace(b.t, b.x, key, at, elder, there)
	}
}

func wantSizes(t *testing.T, x *table.Table[string], keys, slots, left int) {
	t.Helper()
	if x.Len() != keys || x.Slots() != slots || x.Left() != left {
		t.Errorf("Len %d, Slots %d, Left %d; want %d, %d, %d", x.Len(), x.Slots(), x.Left(), keys, slots, left)
	}
}

func wantGet(t *testing.T, x *table.Table[string], key, want string, is bool) {
	t.Helper()
	if v, there := x.Get(key); v != want || there != is {
		t.Errorf("Get(%q): %q, %v; want %q, %v", key, v, there, want, is)
	}
}

func wantPlace(t *testing.T, x *table.Table[string], key string, want int, old, is bool) {
	t.Helper()
	if at, elder, there := x.Place(key); at != want || elder != old || there != is {
		t.Errorf("Place(%q): %d, %v, %v; want %d, %v, %v", key, at, elder, there, want, old, is)
	}
}

func wantPairs(t *testing.T, x *table.Table[string], want ...pair) {
	t.Helper()
	if got := pairsOf(x); !slices.Equal(got, want) {
		t.Errorf("All: %v; want %v", got, want)
	}
}

// someKeys are keys of all kinds: none, noughts, bytes that are no runes, fronts of one another, long ones, and many of few homes.
func someKeys(n int) []string {
	all := []string{"", "\x00", "\x00\x00", "\xff", "\xff\xff", "a", "ab", "abc", "b", "é", "é\x80", string(make([]byte, 300))}
	all = append(all, homed(8, 15)...)
	all = append(all, homed(4, 14)...)
	all = append(all, homed(4, 0)...)
	for i := len(all); i < n; i++ {
		all = append(all, fmt.Sprint("k", i))
	}
	return all[:n]
}

// anyValue is now and then the zero value: it is told apart from none.
func anyValue(r *rand.Rand) string {
	return []string{"", "a", "b", "c", "d"}[r.IntN(5)]
}

// anyPlaces are numbers of places to be moved, wrong ones among them.
func anyPlaces(r *rand.Rand) int {
	return []int{math.MinInt, -4, -1, 0, 1, 1, 2, 3, 5, 7, 8, 16, math.MaxInt}[r.IntN(13)]
}

// anyBoth is a table of some of these keys, in whatever state of being moved.
func anyBoth(t *testing.T, r *rand.Rand, keys []string) both {
	t.Helper()
	b := newBoth(t)
	for range r.IntN(3 * len(keys)) {
		b.step(r, keys)
	}
	if r.IntN(2) == 0 {
		return b
	}
	for i := 0; b.x.Left() == 0; i++ {
		b.put(fmt.Sprint("more", i))
	}
	b.move(r.IntN(b.x.Left()))
	return b
}

// step does one call by chance.
func (b both) step(r *rand.Rand, keys []string) {
	b.t.Helper()
	key := keys[r.IntN(len(keys))]
	switch r.IntN(8) {
	case 0, 1:
		b.drop(key)
	case 2:
		b.move(anyPlaces(r))
	default:
		b.lay(key, anyValue(r))
	}
}
