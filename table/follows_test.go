package table_test

import (
	"fmt"
	"maps"
	"math/rand/v2"
	"slices"
	"testing"

	"spate/table"
)

// P607: Get tells what was put last and not dropped since; no call changes what lies under another key; Len is how many keys All goes over.
func TestLikeAMap(t *testing.T) {
	r := rand.New(rand.NewPCG(6, 6))
	for i := range 60 {
		keys := someKeys(20 + 4*i)
		x, held := table.New[string](), map[string]string{}
		for range 400 {
			key, v := keys[r.IntN(len(keys))], anyValue(r)
			switch r.IntN(7) {
			case 0, 1:
				want, is := held[key]
				if got, there := x.Drop(key); got != want || there != is {
					t.Errorf("Drop(%q): %q, %v; want %q, %v", key, got, there, want, is)
				}
				delete(held, key)
			case 2:
				x.Move(anyPlaces(r))
			default:
				x.Put(key, v)
				held[key] = v
			}
			for _, k := range keys {
				v, is := held[k]
				wantGet(t, x, k, v, is)
			}
			if all := maps.Collect(x.All()); !maps.Equal(all, held) || x.Len() != len(held) {
				t.Errorf("All: %v, Len %d; want %v", all, x.Len(), held)
			}
		}
	}
}

// P608: no place between a key's home and its place is empty; at most three quarters of Slots are taken; no elder row is left when a Put grows the table.
func TestWhatFollows(t *testing.T) {
	r := rand.New(rand.NewPCG(7, 7))
	var grew, passed, gone int
	for range 40 {
		keys := someKeys(300)
		b := newBoth(t)
		for range 800 {
			slots, left := b.x.Slots(), b.x.Left()
			key := keys[r.IntN(len(keys))]
			if r.IntN(5) == 0 {
				b.drop(key)
			} else {
				b.put(key)
			}
			if b.x.Slots() != slots {
				grew++
				// Move(4) comes ahead of growing: more than four that were left would have been moved whole.
				if left > 4 || b.x.Slots() != 2*slots || b.x.Left() != slots {
					t.Errorf("%d left; %d places, then %d, %d left", left, slots, b.x.Slots(), b.x.Left())
				}
			}
			if 4*b.x.Len() > 3*b.x.Slots() {
				t.Errorf("%d keys at %d places", b.x.Len(), b.x.Slots())
			}
		}
		p, g := wantNoneEmpty(t, b)
		passed, gone = passed+p, gone+g
	}
	for range 400 {
		p, g := wantNoneEmpty(t, anyBoth(t, r, someKeys(40)))
		passed, gone = passed+p, gone+g
	}
	if grew < 200 || passed < 1000 || gone < 50 {
		t.Errorf("%d grew, %d passed, %d gone: this tests too little", grew, passed, gone)
	}
}

// wantNoneEmpty tells how many places lie between keys' homes and their places, and how many of them are gone.
func wantNoneEmpty(t *testing.T, b both) (passed, gone int) {
	t.Helper()
	type spot struct {
		at    int
		elder bool
	}
	taken := map[spot]bool{}
	for key := range b.x.All() {
		at, elder, _ := b.x.Place(key)
		taken[spot{at, elder}] = true
	}
	if len(taken) != b.x.Len() {
		t.Errorf("%d places have %d keys", len(taken), b.x.Len())
	}
	for key := range b.x.All() {
		at, elder, _ := b.x.Place(key)
		slots := b.x.Slots()
		if elder {
			slots /= 2
		}
		for _, k := range from(home(key, slots), slots) {
			if k == at {
				break
			}
			passed++
			if elder && b.p.gone[k] {
				gone++
			} else if !taken[spot{k, elder}] {
				t.Errorf("%q lies at %d, %v; %d is empty", key, at, elder, k)
			}
		}
	}
	return passed, gone
}

// P606, P5: a sequence goes over what the table was when it was made, whatever is done behind that.
func TestSequenceOfThen(t *testing.T) {
	x := table.New[string]()
	none := x.All()
	var want []pair
	for i := range 7 {
		x.Put(fmt.Sprint(i), "v")
		want = append(want, pair{fmt.Sprint(i), "v"})
	}
	seq := x.All()
	ask := func() {
		t.Helper()
		var got []pair
		for k, v := range seq {
			got = append(got, pair{k, v})
		}
		if !slices.Equal(got, want) {
			t.Errorf("%v; want %v", got, want)
		}
		for k := range none {
			t.Errorf("%q of a table without keys", k)
		}
	}
	ask()
	x.Put("0", "w")
	ask()
	x.Move(8)
	x.Put("x", "v")
	ask()
	for i := range 7 {
		x.Drop(fmt.Sprint(i))
	}
	ask()
	for i := range 100 {
		x.Put(fmt.Sprint("z", i), "z")
	}
	ask()
}

// P5: it may be left early, be ranged over again, also within itself.
func TestSequenceWithinItself(t *testing.T) {
	x := table.New[string]()
	for i := range 5 {
		x.Put(fmt.Sprint(i), "")
	}
	seq := x.All()
	var pairs []string
	for a := range seq {
		for b := range seq {
			if b > a {
				break
			}
			pairs = append(pairs, a+b)
		}
		if a == "2" {
			break
		}
	}
	if want := []string{"00", "10", "11", "20", "21", "22"}; !slices.Equal(pairs, want) {
		t.Errorf("%v; want %v", pairs, want)
	}
	n := 0
	for range seq {
		n++
	}
	if n != 5 {
		t.Errorf("%d behind leaving early", n)
	}
	seq(func(string, string) bool { n++; return false })
	if n != 6 {
		t.Errorf("%d calls behind a false", n-5)
	}
}

// P5: the table is asked and changed while a sequence of it is gone over.
func TestChangedMeanwhile(t *testing.T) {
	b := newBoth(t)
	keys := someKeys(7)
	b.put(keys...)
	n := 0
	for k, v := range b.x.All() {
		if v != "of "+k {
			t.Errorf("%q: %q", k, v)
		}
		n++
		b.drop(k)
		b.lay(fmt.Sprint("new", n), "x")
		b.same(keys...)
	}
	if n != 7 {
		t.Errorf("%d keys", n)
	}
}

// P606, P7: of a table and its twin neither is changed with the other.
func TestTwin(t *testing.T) {
	r := rand.New(rand.NewPCG(8, 8))
	mixed := 0
	for range 300 {
		keys := someKeys(30)
		b := anyBoth(t, r, keys)
		twin := both{t, b.x.Twin(), b.p.twin()}
		twin.same(keys...)
		if b.x.Left() > 0 {
			mixed++
		}
		for range 10 {
			b.step(r, keys)
			twin.same(keys...)
			twin.step(r, keys)
			b.same(keys...)
		}
		third := both{t, twin.x.Twin(), twin.p.twin()}
		twin.put("x", "y", "z")
		third.same(keys...)
	}
	if mixed < 50 {
		t.Errorf("only %d with an elder row: this tests too little", mixed)
	}
}

// P3, P7: two tables that are called alike tell the same, and have nothing in common.
func TestTwiceTheSame(t *testing.T) {
	keys := someKeys(40)
	for seed := range uint64(100) {
		a := anyBoth(t, rand.New(rand.NewPCG(seed, 9)), keys)
		other := anyBoth(t, rand.New(rand.NewPCG(seed, 10)), keys)
		b := anyBoth(t, rand.New(rand.NewPCG(seed, 9)), keys)
		both{t, a.x, b.p}.same(keys...)
		both{t, b.x, a.p}.same(keys...)
		a.put("x", "y", "z")
		for _, key := range keys {
			a.drop(key)
		}
		b.same(keys...)
		other.same(keys...)
	}
}

// P2: what lies under a key is handed on as it is, and a key is kept as the text it was.
func TestWhatIsHandedIn(t *testing.T) {
	bytes := []byte("key")
	list := []int{1, 2, 3, 4}[:2]
	x := table.New[[]int]()
	x.Put(string(bytes), list)
	bytes[0] = 'x'
	if v, there := x.Get("key"); !there || !slices.Equal(v, list) || &v[0] != &list[0] {
		t.Errorf("%v, %v", v, there)
	}
	x.Drop("key")
	if !slices.Equal(list[:4], []int{1, 2, 3, 4}) {
		t.Errorf("%v", list[:4])
	}
}

// P1, P4: every call ends and none panics, whatever it is given; beside a false stand zero values.
func TestWhateverIsGiven(t *testing.T) {
	r := rand.New(rand.NewPCG(11, 11))
	long := string(make([]byte, 1<<20))
	wrong := append(someKeys(50), long, long+"a", "a"+long)
	missed := 0
	for range 20 {
		b := anyBoth(t, r, someKeys(45))
		for _, key := range wrong {
			if _, there := b.p.values[key]; !there {
				missed++
				wantGet(t, b.x, key, "", false)
				wantPlace(t, b.x, key, 0, false, false)
				b.drop(key)
			}
			b.lay(key, "v")
			b.move(anyPlaces(r))
		}
		b.same(wrong...)
	}
	if missed < 200 {
		t.Errorf("only %d were not there: this tests too little", missed)
	}
}
