package wire_test

import (
	"bytes"
	"math"
	"math/rand/v2"
	"slices"
	"testing"

	"spate/api"
	"spate/wire"
)

// A said is one call's thing: of kind 0 a number, 1 an int, 2 a text.
type said struct {
	kind  int
	num   int
	whole int64
	text  string
}

func anySaid(r *rand.Rand) said {
	x := said{kind: r.IntN(3)}
	switch x.kind {
	case 0:
		x.num = int(r.Uint64()>>1) >> r.IntN(63)
	case 1:
		x.whole = int64(r.Uint64()) >> r.IntN(64)
	case 2:
		x.text = string(anyBytes(r, r.IntN(200)))
	}
	return x
}

func anyBytes(r *rand.Rand, n int) []byte {
	b := make([]byte, n)
	for i := range b {
		b[i] = byte(r.Uint32())
	}
	return b
}

func write(all []said) []byte {
	w := &wire.Writer{}
	for _, x := range all {
		switch x.kind {
		case 0:
			w.Num(x.num)
		case 1:
			w.Int(x.whole)
		case 2:
			w.Text(x.text)
		}
	}
	return w.Bytes()
}

// read asks by the kinds of all; whether there is no fault, up to the end.
func read(b []byte, all []said) ([]said, bool) {
	r := wire.Read(b)
	var got []said
	for _, x := range all {
		y := said{kind: x.kind}
		switch x.kind {
		case 0:
			y.num = r.Num(math.MaxInt)
		case 1:
			y.whole = r.Int()
		case 2:
			y.text = r.Text(math.MaxInt)
		}
		got = append(got, y)
	}
	r.End()
	return got, r.Err() == nil
}

// P106: what was written is read; shorter, longer or other bytes have a fault, or are those of what they tell.
func TestThereAndBack(t *testing.T) {
	r := rand.New(rand.NewPCG(1, 1))
	for range 3000 {
		all := make([]said, r.IntN(6))
		for i := range all {
			all[i] = anySaid(r)
		}
		b := write(all)
		if got, right := read(b, all); !right || !slices.Equal(got, all) {
			t.Fatalf("%v: told %v, %v", all, got, right)
		}
		if _, right := read(append(bytes.Clone(b), byte(r.Uint32())), all); right {
			t.Fatalf("%v: a byte more is no fault", all)
		}
		if len(b) == 0 {
			continue
		}
		if _, right := read(b[:r.IntN(len(b))], all); right {
			t.Fatalf("%v: fewer bytes are no fault", all)
		}
		other := bytes.Clone(b)
		other[r.IntN(len(b))] ^= 1 << r.IntN(8)
		if got, right := read(other, all); right && !bytes.Equal(write(got), other) {
			t.Fatalf("%v is read as %v, which is written otherwise", other, got)
		}
	}
}

// P106: no bytes but a Writer's are read without a fault.
func TestNoOtherBytes(t *testing.T) {
	r := rand.New(rand.NewPCG(2, 2))
	some := []byte{0, 1, 2, 3, 127, 128, 129, 255}
	rights := 0
	for range 300000 {
		all := make([]said, r.IntN(4))
		for i := range all {
			all[i].kind = r.IntN(3)
		}
		b := make([]byte, r.IntN(13))
		for i := range b {
			b[i] = some[r.IntN(len(some))]
		}
		got, right := read(b, all)
		if !right {
			continue
		}
		rights++
		if !bytes.Equal(write(got), b) {
			t.Fatalf("%v is read as %v, which is written otherwise", b, got)
		}
	}
	if rights < 1000 {
		t.Errorf("only %d were read without a fault: this tests too little", rights)
	}
}

// hear feeds pieces and asks for frames by chance; then for all that are left.
func hear(t *testing.T, most int, row []byte, r *rand.Rand) ([][]byte, api.Errno) {
	t.Helper()
	f := newFrames(t, most)
	var bodies [][]byte
	ask := func() (bool, api.Errno) {
		b, is, e := f.Next()
		if !is && len(b) != 0 {
			t.Fatalf("%v beside false", b)
		}
		if is {
			bodies = append(bodies, b)
		}
		return is, e
	}
	for len(row) > 0 {
		n := min(r.IntN(7), len(row))
		f.Feed(row[:n])
		row = row[n:]
		for range r.IntN(3) {
			ask()
		}
	}
	for {
		if is, e := ask(); !is {
			return bodies, e
		}
	}
}

func sameBodies(a, b [][]byte) bool { return slices.EqualFunc(a, b, bytes.Equal) }

// P107: any pieces, the same frames, and the same ErrFrame behind them.
func TestAnyPieces(t *testing.T) {
	r := rand.New(rand.NewPCG(3, 3))
	for range 2000 {
		var row []byte
		var want [][]byte
		for range r.IntN(8) {
			body := anyBytes(r, 1+r.IntN(12))
			want = append(want, body)
			row = append(row, frame(t, body)...)
		}
		end := api.OK
		switch r.IntN(4) {
		case 0:
			row, end = append(row, 0, 0, 0, 13, 1, 2, 3), api.ErrFrame
		case 1:
			row, end = append(row, 0, 0, 0, 0, 0, 0, 0, 1, 5), api.ErrFrame
		case 2:
			row = append(row, 0, 0, 0, 12, 5, 5)
		}
		for range 4 {
			if bodies, e := hear(t, 12, row, r); e != end || !sameBodies(bodies, want) {
				t.Fatalf("%v: told %v, %v; want %v, %v", row, bodies, e, want, end)
			}
		}
	}
}

// P107: each cut of a row into three pieces, empty ones too.
func TestEachCut(t *testing.T) {
	row := append(frame(t, []byte("ab")), frame(t, []byte("c"))...)
	row = append(row, 0, 0, 0, 0, 9)
	for i := range len(row) + 1 {
		for j := i; j <= len(row); j++ {
			f := newFrames(t, 2)
			var told []string
			last := api.OK
			for _, piece := range [][]byte{row[:i], row[i:j], row[j:]} {
				f.Feed(piece)
				for {
					b, is, e := f.Next()
					last = e
					if !is {
						break
					}
					told = append(told, string(b))
				}
			}
			if !slices.Equal(told, []string{"ab", "c"}) || last != api.ErrFrame {
				t.Errorf("cut at %d, %d: %q, %v", i, j, told, last)
			}
		}
	}
}

// P107: large bodies, cut anywhere.
func TestLargeBodies(t *testing.T) {
	r := rand.New(rand.NewPCG(4, 4))
	f := newFrames(t, api.MaxBody)
	var want [][]byte
	var row []byte
	for _, n := range []int{api.MaxBody, 1, 255, 256, 65535, api.MaxBody} {
		want = append(want, anyBytes(r, n))
		row = append(row, frame(t, want[len(want)-1])...)
	}
	var told [][]byte
	for len(row) > 0 {
		n := min(r.IntN(30000), len(row))
		f.Feed(row[:n])
		row = row[n:]
		for b, is, e := f.Next(); is; b, is, e = f.Next() {
			if e != api.OK {
				t.Fatal(e)
			}
			told = append(told, b)
		}
	}
	if !sameBodies(told, want) || f.Held() != 0 {
		t.Errorf("%d bodies, %d held", len(told), f.Held())
	}
}

// P3: the same calls answer the same.
func TestTwiceTheSame(t *testing.T) {
	r := rand.New(rand.NewPCG(5, 5))
	for i := range 200 {
		b := anyBytes(r, r.IntN(40))
		kinds := make([]said, 5)
		for j := range kinds {
			kinds[j].kind = r.IntN(3)
		}
		first, right := read(b, kinds)
		second, again := read(b, kinds)
		if right != again || !slices.Equal(first, second) || !bytes.Equal(write(first), write(second)) {
			t.Errorf("%v: %v, then %v", b, first, second)
		}
		seed := uint64(i)
		one, e := hear(t, 300, b, rand.New(rand.NewPCG(seed, 6)))
		two, g := hear(t, 300, b, rand.New(rand.NewPCG(seed, 6)))
		if e != g || !sameBodies(one, two) {
			t.Errorf("%v: %v, %v, then %v, %v", b, one, e, two, g)
		}
	}
}
