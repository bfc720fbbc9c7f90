package epoch_test

import (
	"math"
	"math/rand/v2"
	"slices"
	"testing"

	"spate/api"
	"spate/epoch"
)

// plain is a book as the promises say it: lists that are gone through whole, and what is dying found by holding what is held ahead of a call against what is held behind it.
type plain struct {
	pins, now  int
	sets       map[int][]int
	inner      map[int]int
	dying, own []int
	sweeping   bool
}

func newPlain(pins int) *plain {
	return &plain{pins: pins, now: 1, sets: map[int][]int{}, inner: map[int]int{}}
}

func (p *plain) twin() *plain {
	q := newPlain(p.pins)
	q.now, q.sweeping = p.now, p.sweeping
	for o, s := range p.sets {
		q.sets[o] = slices.Clone(s)
	}
	for o, e := range p.inner {
		q.inner[o] = e
	}
	q.dying, q.own = slices.Clone(p.dying), slices.Clone(p.own)
	return q
}

func isOwner(owner int) bool { return owner > 0 && owner < 65 }

func (p *plain) heldAt(e int) bool {
	for o := 1; o <= 64; o++ {
		if slices.Contains(p.sets[o], e) || p.inner[o] == e {
			return true
		}
	}
	return false
}

// held tries every epoch there was.
func (p *plain) held() []int {
	var all []int
	for e := 1; e < p.now; e++ {
		if p.heldAt(e) {
			all = append(all, e)
		}
	}
	return all
}

// behind does something, and looks which epochs are held no more (P904).
func (p *plain) behind(do func()) {
	before := p.held()
	do()
	for _, e := range before {
		if !p.heldAt(e) {
			p.dying = append(p.dying, e)
		}
	}
	slices.Sort(p.dying)
}

func (p *plain) seal(owner int) (int, api.Errno) {
	if !isOwner(owner) {
		return 0, api.ErrArg
	}
	if len(p.sets[owner]) == p.pins {
		return 0, api.ErrPins
	}
	p.sets[owner] = append(p.sets[owner], p.now)
	p.now++
	return p.now - 1, api.OK
}

func (p *plain) innerOf(owner int) (int, api.Errno) {
	if !isOwner(owner) {
		return 0, api.ErrArg
	}
	if p.inner[owner] != 0 {
		return 0, api.ErrTwice
	}
	p.inner[owner] = p.now
	p.now++
	return p.now - 1, api.OK
}

func (p *plain) join(owner, e int) api.Errno {
	if !isOwner(owner) {
		return api.ErrArg
	}
	some := false
	for _, s := range p.sets {
		some = some || slices.Contains(s, e)
	}
	switch {
	case !some:
		return api.ErrEpoch
	case slices.Contains(p.sets[owner], e):
		return api.OK
	case len(p.sets[owner]) == p.pins:
		return api.ErrPins
	}
	p.sets[owner] = append(p.sets[owner], e)
	return api.OK
}

func (p *plain) release(owner, e int) api.Errno {
	if !isOwner(owner) {
		return api.ErrArg
	}
	at := slices.Index(p.sets[owner], e)
	if at < 0 {
		return api.ErrEpoch
	}
	p.behind(func() { p.sets[owner] = slices.Delete(p.sets[owner], at, at+1) })
	return api.OK
}

func (p *plain) done(owner int) api.Errno {
	if !isOwner(owner) {
		return api.ErrArg
	}
	if p.inner[owner] == 0 {
		return api.ErrGone
	}
	p.behind(func() { delete(p.inner, owner) })
	return api.OK
}

func (p *plain) drop(owner int) int {
	n := len(p.sets[owner])
	if p.inner[owner] != 0 {
		n++
	}
	p.behind(func() {
		delete(p.sets, owner)
		delete(p.inner, owner)
	})
	return n
}

func (p *plain) begin() api.Errno {
	if p.sweeping {
		return api.ErrTwice
	}
	p.sweeping, p.own = true, slices.Clone(p.dying)
	return api.OK
}

func (p *plain) end() (int, api.Errno) {
	if !p.sweeping {
		return 0, api.ErrGone
	}
	p.sweeping = false
	p.dying = slices.DeleteFunc(p.dying, func(e int) bool { return slices.Contains(p.own, e) })
	return len(p.own), api.OK
}

// both is a book and its plain likeness; what is called is called of both, and held against each other.
type both struct {
	t *testing.T
	b *epoch.Book
	p *plain
}

func newBook(t *testing.T, pins int) *epoch.Book {
	t.Helper()
	b, errno := epoch.New(pins)
	if errno != api.OK || b == nil {
		t.Fatalf("New(%d): %v, %v", pins, b, errno)
	}
	return b
}

func newBoth(t *testing.T, pins int) both {
	t.Helper()
	return both{t, newBook(t, pins), newPlain(pins)}
}

func (x both) twin() both { return both{x.t, x.b.Twin(), x.p.twin()} }

// call is one of a book; the epoch is used by Join and Release alone.
type call struct {
	name         string
	owner, epoch int
}

// answer is a number and an error, as far as a call answers them.
type answer struct {
	n     int
	errno api.Errno
}

func ask(b *epoch.Book, c call) answer {
	var a answer
	switch c.name {
	case "Seal":
		a.n, a.errno = b.Seal(c.owner)
	case "Inner":
		a.n, a.errno = b.Inner(c.owner)
	case "Join":
		a.errno = b.Join(c.owner, c.epoch)
	case "Release":
		a.errno = b.Release(c.owner, c.epoch)
	case "Done":
		a.errno = b.Done(c.owner)
	case "Drop":
		a.n = b.Drop(c.owner)
	case "Begin":
		a.errno = b.Begin()
	case "End":
		a.n, a.errno = b.End()
	}
	return a
}

func (p *plain) ask(c call) answer {
	var a answer
	switch c.name {
	case "Seal":
		a.n, a.errno = p.seal(c.owner)
	case "Inner":
		a.n, a.errno = p.innerOf(c.owner)
	case "Join":
		a.errno = p.join(c.owner, c.epoch)
	case "Release":
		a.errno = p.release(c.owner, c.epoch)
	case "Done":
		a.errno = p.done(c.owner)
	case "Drop":
		a.n = p.drop(c.owner)
	case "Begin":
		a.errno = p.begin()
	case "End":
		a.n, a.errno = p.end()
	}
	return a
}

// do calls, and looks at all that the book tells behind it.
func (x both) do(c call) answer {
	x.t.Helper()
	got, want := ask(x.b, c), x.p.ask(c)
	if got != want {
		x.t.Errorf("%v: %v; want %v", c, got, want)
	}
	x.same()
	return got
}

// same looks at all that the book tells.
func (x both) same() {
	x.t.Helper()
	wantBook(x.t, x.b, x.p.now, x.p.held(), x.p.dying)
	owners := []int{-1, 0, 1, 2, 3, 4, 5, 63, 64, 65}
	for _, o := range owners {
		for e := -1; e <= x.p.now+1; e++ {
			if got, want := x.b.Holds(o, e), slices.Contains(x.p.sets[o], e); got != want {
				x.t.Errorf("Holds(%d, %d): %v", o, e, got)
			}
		}
	}
}

// wantBook looks at what a book tells without an owner.
func wantBook(t *testing.T, b *epoch.Book, now int, held, dying []int) {
	t.Helper()
	if n := b.Now(); n != now {
		t.Errorf("Now: %d; want %d", n, now)
	}
	if got := b.Held(); !slices.Equal(got, held) {
		t.Errorf("Held: %v; want %v", got, held)
	}
	if got := b.Dying(); !slices.Equal(got, dying) {
		t.Errorf("Dying: %v; want %v", got, dying)
	}
	if n := b.Live(); n != len(held)+len(dying) {
		t.Errorf("Live: %d; want %d", n, len(held)+len(dying))
	}
}

func wantSeal(t *testing.T, b *epoch.Book, owner, want int, why api.Errno) {
	t.Helper()
	if n, errno := b.Seal(owner); n != want || errno != why {
		t.Errorf("Seal(%d): %d, %v; want %d, %v", owner, n, errno, want, why)
	}
}

func wantInner(t *testing.T, b *epoch.Book, owner, want int, why api.Errno) {
	t.Helper()
	if n, errno := b.Inner(owner); n != want || errno != why {
		t.Errorf("Inner(%d): %d, %v; want %d, %v", owner, n, errno, want, why)
	}
}

func wantEnd(t *testing.T, b *epoch.Book, want int, why api.Errno) {
	t.Helper()
	if n, errno := b.End(); n != want || errno != why {
		t.Errorf("End: %d, %v; want %d, %v", n, errno, want, why)
	}
}

func wantDrop(t *testing.T, b *epoch.Book, owner, want int) {
	t.Helper()
	if n := b.Drop(owner); n != want {
		t.Errorf("Drop(%d): %d; want %d", owner, n, want)
	}
}

// wantErrno holds an answer of Join, Release, Done, Begin against what is asked.
func wantErrno(t *testing.T, what string, got, want api.Errno) {
	t.Helper()
	if got != want {
		t.Errorf("%s: %v; want %v", what, got, want)
	}
}

// noOwners may not be; edgeInts are no epochs of a young book, nor owners.
func noOwners() []int {
	return []int{math.MinInt, -64, -1, 0, 65, 66, 128, 1 << 32, 1<<32 + 1, math.MaxInt}
}

func edgeInts() []int {
	return []int{math.MinInt, -1 << 40, -1, 0, 1<<32 + 1, 1 << 40, 1<<40 + 1, math.MaxInt}
}

// anyCall is mostly of few owners and of epochs there were.
func anyCall(r *rand.Rand, now int) call {
	names := []string{"Seal", "Seal", "Seal", "Inner", "Join", "Join", "Join", "Join", "Release", "Release", "Release", "Done", "Drop", "Begin", "End"}
	c := call{names[r.IntN(len(names))], 1 + r.IntN(4), 0}
	// A book gets no longer than it is gone through in little time.
	if now > 60 && (c.name == "Seal" || c.name == "Inner") && r.IntN(8) > 0 {
		c.name = "Join"
	}
	if r.IntN(20) == 0 {
		c.owner = []int{64, 64, 0, 65, -1, math.MaxInt, math.MinInt}[r.IntN(7)]
	}
	if c.name == "Join" || c.name == "Release" {
		c.epoch = max(now-r.IntN(12), -1)
		if r.IntN(30) == 0 {
			c.epoch = edgeInts()[r.IntN(8)]
		}
	}
	return c
}

// anyBoth has been through so many calls.
func anyBoth(t *testing.T, r *rand.Rand, calls int) both {
	t.Helper()
	x := newBoth(t, 1+r.IntN(5))
	for range calls {
		c := anyCall(r, x.p.now)
		if got, want := ask(x.b, c), x.p.ask(c); got != want {
			t.Errorf("%v: %v; want %v", c, got, want)
		}
	}
	x.same()
	return x
}
