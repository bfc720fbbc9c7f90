package table_test

import (
	"math"
	"math/rand/v2"
	"testing"
)

// grown is a table whose elder row has six keys, at 7 and 0 to 4, and whose row has one.
func grown(t *testing.T) (both, []string) {
	t.Helper()
	b := newBoth(t)
	keys := append(homed(6, 15), homed(1, 0)...)
	b.put(keys...)
	wantSizes(t, b.x, 7, 16, 8)
	return b, keys
}

// P603: example 4, and all that is below 1.
func TestMoveOfNone(t *testing.T) {
	b, _ := grown(t)
	for _, places := range []int{0, -3, -1, math.MinInt, math.MinInt + 1} {
		if left := b.move(places); left != 8 {
			t.Errorf("Move(%d): %d", places, left)
		}
		b.same()
	}
	for _, places := range []int{3, 0, -3} {
		if left := b.move(places); left != 5 {
			t.Errorf("Move(%d): %d", places, left)
		}
		b.same()
	}
}

// P603: without an elder row there is nothing to move.
func TestMoveWithoutElder(t *testing.T) {
	b := newBoth(t)
	for _, n := range []int{0, 3, 6} {
		for _, key := range homed(n, 5) {
			b.put(key)
		}
		for _, places := range []int{math.MinInt, -1, 0, 1, 4, 8, math.MaxInt} {
			if left := b.move(places); left != 0 {
				t.Errorf("Move(%d): %d", places, left)
			}
			b.same()
		}
	}
}

// P603: place by place, from place 0 on, empty ones too; each key to the first empty place from its home on.
func TestMoveByOnes(t *testing.T) {
	b, keys := grown(t)
	wantPlace(t, b.x, keys[6], 0, false, true)
	// The elder row's place 0 has keys[1], .. 4 keys[5], 7 keys[0]; the row's place 0 is taken.
	lie := []int{15, 1, 2, 3, 4}
	for i, at := range lie {
		wantPlace(t, b.x, keys[i+1], i, true, true)
		if left := b.move(1); left != 7-i {
			t.Errorf("%d left behind %d", left, i+1)
		}
		wantPlace(t, b.x, keys[i+1], at, false, true)
		b.same()
	}
	for _, left := range []int{2, 1} {
		if got := b.move(1); got != left {
			t.Errorf("%d left; want %d", got, left)
		}
		wantPlace(t, b.x, keys[0], 7, true, true)
	}
	b.move(1)
	wantSizes(t, b.x, 7, 16, 0)
	wantPlace(t, b.x, keys[0], 5, false, true)
	b.same()
}

// P603: as many as are left, if it is more than these.
func TestMoveOfMore(t *testing.T) {
	for _, first := range []int{0, 1, 5, 7, 8} {
		for _, places := range []int{8 - first, 9 - first, 8, 9, 1 << 40, math.MaxInt} {
			b, _ := grown(t)
			b.move(first)
			if left := b.move(places); left != 0 {
				t.Errorf("Move(%d) behind %d: %d", places, first, left)
			}
			b.same()
		}
	}
}

// P603: one that moves all at once, and one that does so by pieces, tell the same.
func TestMoveByPieces(t *testing.T) {
	r := rand.New(rand.NewPCG(4, 4))
	mixed := 0
	for range 300 {
		b := anyBoth(t, r, someKeys(30))
		whole := b.x.Twin()
		if b.x.Left() > 1 {
			mixed++
		}
		for b.x.Left() > 0 {
			b.move(anyPlaces(r))
			b.same()
		}
		whole.Move(math.MaxInt)
		both{t, whole, b.p}.same()
	}
	if mixed < 50 {
		t.Errorf("only %d with an elder row: this tests too little", mixed)
	}
}
