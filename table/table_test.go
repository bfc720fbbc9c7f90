package table_test

import (
	"fmt"
	"hash/fnv"
	"math/big"
	"math/rand/v2"
	"slices"
	"testing"

	"spate/table"
)

// P601: a table without keys, of whatever values.
func TestNew(t *testing.T) {
	b := newBoth(t)
	wantSizes(t, b.x, 0, 8, 0)
	b.same(someKeys(40)...)
	wantPairs(t, b.x)
	if v, there := table.New[[]int]().Get("a"); v != nil || there {
		t.Errorf("Get: %v, %v", v, there)
	}
	if v, there := table.New[*int]().Drop("a"); v != nil || there {
		t.Errorf("Drop: %v, %v", v, there)
	}
	x := table.New[struct{}]()
	x.Put("a", struct{}{})
	if _, there := x.Get("a"); !there || x.Len() != 1 {
		t.Errorf("a value of no bytes: %v, %d", there, x.Len())
	}
}

// P601: example 2.
func TestHashExample(t *testing.T) {
	for key, want := range map[string]uint64{"": 14695981039346656037, "a": 12638187200555641996} {
		if h := table.Hash(key); h != want {
			t.Errorf("Hash(%q): %d; want %d", key, h, want)
		}
	}
}

// P601, W9: the hash of any text, by another one's hand and by numbers that do not wrap.
func TestHash(t *testing.T) {
	r := rand.New(rand.NewPCG(1, 1))
	texts := someKeys(100)
	for i := range 256 {
		texts = append(texts, string([]byte{byte(i)}), string([]byte{byte(i), byte(255 - i)}))
	}
	for range 300 {
		text := make([]byte, r.IntN(100))
		for i := range text {
			text[i] = byte(r.IntN(256))
		}
		texts = append(texts, string(text))
	}
	for _, text := range texts {
		h := fnv.New64a()
		h.Write([]byte(text))
		if got := table.Hash(text); got != h.Sum64() || got != bigHash(text) {
			t.Errorf("Hash(%q): %d; want %d", text, got, h.Sum64())
		}
	}
}

func bigHash(text string) uint64 {
	sum, _ := new(big.Int).SetString("14695981039346656037", 10)
	times := big.NewInt(1099511628211)
	turn := new(big.Int).Lsh(big.NewInt(1), 64)
	for i := range len(text) {
		sum.Xor(sum, big.NewInt(int64(text[i])))
		sum.Mod(sum.Mul(sum, times), turn)
	}
	return sum.Uint64()
}

// P602, P604: keys of one home lie behind one another, round the row's end.
func TestPlacesRoundTheEnd(t *testing.T) {
	b := newBoth(t)
	keys := homed(5, 15)
	b.put(keys...)
	for i, key := range keys {
		wantPlace(t, b.x, key, (7+i)%8, false, true)
		wantGet(t, b.x, key, "of "+key, true)
	}
	// Looking for a key that is not there begins among others, and ends at an empty place.
	for _, key := range append(homed(6, 15)[5:], homed(2, 0)...) {
		wantPlace(t, b.x, key, 0, false, false)
		wantGet(t, b.x, key, "", false)
	}
	b.put(homed(1, 0)...)
	wantPlace(t, b.x, homed(1, 0)[0], 4, false, true)
	b.same()
}

// P602: asking moves nothing and changes nothing.
func TestAskingMovesNothing(t *testing.T) {
	b := newBoth(t)
	keys := someKeys(7)
	b.put(keys...)
	for range 3 {
		for _, key := range someKeys(30) {
			b.x.Get(key)
			b.x.Place(key)
			b.x.All()
			b.x.Twin().Move(8)
		}
	}
	wantSizes(t, b.x, 7, 16, 8)
	for i, key := range keys {
		if _, elder, _ := b.x.Place(key); elder != (i < 6) {
			t.Errorf("%q: %v", key, elder)
		}
	}
	b.same()
}

// P604: example 1.
func TestGrowthExample(t *testing.T) {
	b := newBoth(t)
	keys := []string{"a", "b", "c", "d", "e", "f", "g", "h", "i"}
	for i, key := range keys[:6] {
		b.put(key)
		wantSizes(t, b.x, i+1, 8, 0)
	}
	b.put("g")
	wantSizes(t, b.x, 7, 16, 8)
	for _, key := range keys[:6] {
		wantPlace(t, b.x, key, b.where(key), true, true)
	}
	wantPlace(t, b.x, "g", home("g", 16), false, true)
	b.put("h")
	wantSizes(t, b.x, 8, 16, 4)
	b.put("i")
	wantSizes(t, b.x, 9, 16, 0)
	for _, key := range keys {
		wantPlace(t, b.x, key, b.where(key), false, true)
	}
	b.same()
}

func (b both) where(key string) int {
	at, _, _ := b.p.place(key)
	return at
}

// P604: a table of 16 places grows at 12 keys, one of 32 at 24, and so on; what is there already may be put at any time.
func TestGrowsAtThreeQuarters(t *testing.T) {
	b := newBoth(t)
	slots := 8
	for i := range 200 {
		key := fmt.Sprint("k", i)
		if i == slots/4*3 {
			for j := range 20 {
				b.lay(fmt.Sprint("k", j%6), "again")
			}
			wantSizes(t, b.x, i, slots, 0)
			b.put(key)
			slots *= 2
			wantSizes(t, b.x, i+1, slots, slots/2)
			continue
		}
		b.put(key)
		if b.x.Slots() != slots {
			t.Fatalf("%d keys, %d places; want %d", i+1, b.x.Slots(), slots)
		}
	}
	b.same()
}

// P604: v lies in the place of what lay there, in the elder row too, and Move(4) comes first.
func TestPutOfWhatIsThere(t *testing.T) {
	b := newBoth(t)
	keys := homed(6, 15)
	b.put(keys...)
	b.lay(keys[3], "new")
	wantPlace(t, b.x, keys[3], 2, false, true)
	wantGet(t, b.x, keys[3], "new", true)
	b.put(homed(1, 3)...)
	// Now they lie at 7, 0 .. 4 of the elder row: places 0 to 3 are moved by the next call, 4 and 7 are not.
	b.lay(keys[0], "")
	wantSizes(t, b.x, 7, 16, 4)
	wantPlace(t, b.x, keys[0], 7, true, true)
	wantGet(t, b.x, keys[0], "", true)
	wantPlace(t, b.x, keys[1], 15, false, true)
	wantPlace(t, b.x, keys[2], 0, false, true)
	wantPlace(t, b.x, keys[5], 4, true, true)
	b.lay(keys[5], "x")
	wantSizes(t, b.x, 7, 16, 0)
	wantPlace(t, b.x, keys[5], 4, false, true)
	wantGet(t, b.x, keys[5], "x", true)
	b.same()
}

// P604, P605: a key that was dropped from the elder row is put into the row.
func TestPutBehindDropInElder(t *testing.T) {
	b := newBoth(t)
	keys := homed(6, 15)
	b.put(append(keys, "other")...)
	b.drop(keys[0])
	b.x.Move(0)
	wantPlace(t, b.x, keys[0], 0, false, false)
	b.lay(keys[0], "back")
	if _, elder, there := b.x.Place(keys[0]); elder || !there {
		t.Errorf("%v, %v", elder, there)
	}
	b.same()
}

// P602 to P606: whatever is called, by chance, the table tells what its plain likeness does.
func TestAnyCalls(t *testing.T) {
	r := rand.New(rand.NewPCG(2, 2))
	var grew, dropped, elders int
	for i := range 150 {
		keys := someKeys(10 + i)
		b := newBoth(t)
		for range 200 {
			before := b.x.Slots()
			key := keys[r.IntN(len(keys))]
			switch r.IntN(8) {
			case 0, 1:
				_, elder, _ := b.p.place(key)
				if b.drop(key) {
					dropped++
					if elder {
						elders++
					}
				}
			case 2:
				b.move(anyPlaces(r))
			default:
				b.lay(key, anyValue(r))
			}
			if b.x.Slots() > before {
				grew++
			}
			b.same(key)
		}
		b.same(keys...)
	}
	if grew < 300 || dropped < 3000 || elders < 100 {
		t.Errorf("%d grew, %d dropped, %d in elder rows: this tests too little", grew, dropped, elders)
	}
}

// P602, P604, P605: many keys take no long time.
func TestMany(t *testing.T) {
	const many = 300_000
	x := table.New[int]()
	for i := range many {
		x.Put(fmt.Sprint(i), i)
	}
	for i := range many {
		if v, there := x.Get(fmt.Sprint(i)); v != i || !there {
			t.Fatalf("%d: %d, %v", i, v, there)
		}
		if i%2 == 0 {
			x.Drop(fmt.Sprint(i))
		}
	}
	if x.Len() != many/2 || x.Slots() != 1<<19 || x.Left() != 0 {
		t.Errorf("%d, %d, %d", x.Len(), x.Slots(), x.Left())
	}
	last, n := "", 0
	for k, v := range x.All() {
		if k <= last || v%2 == 0 || fmt.Sprint(v) != k {
			t.Fatalf("%q behind %q: %d", k, last, v)
		}
		last = k
		n++
	}
	if n != many/2 {
		t.Errorf("%d keys", n)
	}
}

// P606: by key, byte by byte, a front ahead of what it is a front of, from both rows.
func TestAllByKey(t *testing.T) {
	sorted := []string{"", "\x00", "\x00\x00", "\x00a", "a", "a\x00", "aa", "ab", "b", "z", "\x7f", "\x80", "é", "\xff", "\xff\x00"}
	r := rand.New(rand.NewPCG(3, 3))
	mixed := 0
	for range 200 {
		x := table.New[string]()
		keys := slices.Clone(sorted[:7+r.IntN(len(sorted)-6)])
		want := make([]pair, 0, len(keys))
		for _, k := range keys {
			want = append(want, pair{k, k + "!"})
		}
		r.Shuffle(len(keys), func(i, j int) { keys[i], keys[j] = keys[j], keys[i] })
		for _, k := range keys {
			x.Put(k, k+"!")
		}
		if x.Left() > 0 {
			mixed++
		}
		wantPairs(t, x, want...)
	}
	if mixed < 20 {
		t.Errorf("only %d with an elder row: this tests too little", mixed)
	}
}
