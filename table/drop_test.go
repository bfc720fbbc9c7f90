package table_test

import (
	"math/rand/v2"
	"testing"
)

// P605: example 3: a key of the elder row whose place was moved first is dropped from the row; else its place is gone, and those behind it are still found.
func TestDropExample(t *testing.T) {
	for i := range 6 {
		b, keys := grown(t)
		_, elder, _ := b.x.Place(keys[i])
		if !elder {
			t.Fatalf("%q is not in the elder row", keys[i])
		}
		b.drop(keys[i])
		wantSizes(t, b.x, 6, 16, 4)
		for j, key := range keys {
			want := "of " + key
			if j == i {
				want = ""
			}
			wantGet(t, b.x, key, want, j != i)
		}
		wantPlace(t, b.x, keys[i], 0, false, false)
		b.same(keys...)
	}
}

// P605: what is in neither row; Move(4) comes first all the same.
func TestDropOfNone(t *testing.T) {
	b := newBoth(t)
	if b.drop("a") {
		t.Error("dropped from a table without keys")
	}
	b, keys := grown(t)
	for _, left := range []int{4, 0, 0} {
		if b.drop("none") {
			t.Error("none is there")
		}
		wantSizes(t, b.x, 7, 16, left)
		b.same(keys...)
	}
	b.drop(keys[2])
	if b.drop(keys[2]) {
		t.Error("dropped twice")
	}
	b.same(keys...)
}

// P605: a gone place of the elder row is passed when it is looked for a key, and is moved as an empty one is.
func TestDropAllOfElder(t *testing.T) {
	b := newBoth(t)
	keys := homed(6, 9)
	b.put(append(keys, "other")...)
	// They lie at 1 to 6 of the elder row: behind the first drop 5 and 6 are left there.
	b.drop(keys[4])
	wantPlace(t, b.x, keys[5], 6, true, true)
	wantGet(t, b.x, keys[5], "of "+keys[5], true)
	b.same(keys...)
	b.move(2)
	b.same(keys...)
	b.move(2)
	wantSizes(t, b.x, 6, 16, 0)
	b.same(keys...)
}

// P605: the places are mended: keys behind go up, but not ahead of their homes; round the row's end too.
func TestMend(t *testing.T) {
	b := newBoth(t)
	seven, nought, one, three := homed(3, 15), homed(1, 0), homed(1, 1), homed(1, 3)
	b.put(seven[0], seven[1], nought[0], one[0], three[0])
	// 7: seven[0]; 0: seven[1]; 1: nought; 2: one; 3: three.
	b.drop(seven[0])
	wantPlace(t, b.x, seven[1], 7, false, true)
	wantPlace(t, b.x, nought[0], 0, false, true)
	wantPlace(t, b.x, one[0], 1, false, true)
	wantPlace(t, b.x, three[0], 3, false, true)
	b.same()
	b.put(seven[0], seven[2])
	// 7: seven[1]; 0: nought; 1: one; 2: seven[0]; 3: three; 4: seven[2].
	wantPlace(t, b.x, seven[2], 4, false, true)
	b.drop(nought[0])
	wantPlace(t, b.x, one[0], 1, false, true)
	wantPlace(t, b.x, seven[0], 0, false, true)
	wantPlace(t, b.x, three[0], 3, false, true)
	wantPlace(t, b.x, seven[2], 2, false, true)
	b.same()
	b.drop(three[0])
	b.same()
}

// P605: of the last place, the first, a lone key, and one behind which none lies.
func TestMendAtTheEnds(t *testing.T) {
	for _, at := range []int{0, 1, 7, 8, 14, 15} {
		for n := 1; n <= 6; n++ {
			for i := range n {
				b := newBoth(t)
				keys := homed(n, at)
				b.put(keys...)
				b.drop(keys[i])
				for j, key := range append(keys[:i:i], keys[i+1:]...) {
					wantPlace(t, b.x, key, (at+j)%8, false, true)
				}
				b.same(keys...)
			}
		}
	}
}

// P605, P607: tables whose keys are crowded around the row's end, emptied in whatever order.
func TestDropAll(t *testing.T) {
	r := rand.New(rand.NewPCG(5, 5))
	crowd := append(append(homed(3, 13), homed(4, 14)...), append(homed(4, 15), homed(4, 0)...)...)
	crowd = append(crowd, homed(3, 1)...)
	for range 500 {
		b := newBoth(t)
		r.Shuffle(len(crowd), func(i, j int) { crowd[i], crowd[j] = crowd[j], crowd[i] })
		n := 1 + r.IntN(12)
		b.put(crowd[:n]...)
		if r.IntN(2) == 0 {
			b.move(16)
		}
		for _, i := range r.Perm(n) {
			if !b.drop(crowd[i]) {
				t.Errorf("%q was there", crowd[i])
			}
			b.same(crowd...)
		}
		wantSizes(t, b.x, 0, b.p.slots, b.p.left())
		wantPairs(t, b.x)
	}
}
