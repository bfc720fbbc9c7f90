package net_test

import (
	"bytes"
	"math/rand/v2"
	"slices"
	"sync"
	"testing"

	"spate/api"
	"spate/net"
)

// anyCall is a call by chance, of one of some connections; ends says how many in a thousand are a Close or a Cut.
func anyCall(r *rand.Rand, conns []int, ends int) call {
	k := call{c: conns[r.IntN(len(conns))], most: r.IntN(12) - 2, data: anyBytes(r, 12)}
	switch n := r.IntN(1000); {
	case n < ends/2:
		k.name = "Close"
	case n < ends:
		k.name = "Cut"
	default:
		k.name = []string{"Open", "Send", "Send", "Fetch", "Bring", "Bring", "Take", "Write", "Write", "Fetch"}[n%10]
	}
	return k
}

// run is what went through a connection, told by the calls' answers alone.
type run struct {
	sent, took, wrote []byte
	brought, fetched  int
	inLies, outLies   int
	ended             bool
}

func (g *run) note(k call, a answer) {
	if a.errno != api.OK {
		return
	}
	switch k.name {
	case "Send":
		g.sent = append(g.sent, k.data...)
	case "Bring":
		g.brought += a.count
		g.inLies += a.count
	case "Take":
		g.took = append(g.took, a.data...)
		g.inLies -= len(a.data)
	case "Write":
		g.wrote = append(g.wrote, k.data[:a.count]...)
		g.outLies += a.count
	case "Fetch":
		g.fetched += a.count
		g.outLies -= a.count
	case "Close", "Cut":
		g.ended = true
	}
}

// wantKept asks P1605 of a connection.
func wantKept(t *testing.T, n *net.Net, c int, g *run, in, out int) {
	t.Helper()
	heard, _ := n.Heard(c)
	coming, going := n.Under(c)
	if !bytes.HasPrefix(g.sent, g.took) || !bytes.HasPrefix(g.wrote, heard) {
		t.Fatalf("connection %d: taken %v of %v; heard %v of %v", c, g.took, g.sent, heard, g.wrote)
	}
	if len(heard) != g.fetched {
		t.Fatalf("connection %d: %d heard; %d fetched", c, len(heard), g.fetched)
	}
	if going > out || g.outLies > out || g.inLies > in {
		t.Fatalf("connection %d: more than the room: %d of %d; %d and %d of %d", c, g.inLies, in, going, g.outLies, out)
	}
	if !g.ended && (len(g.sent) != len(g.took)+coming || len(g.wrote) != len(heard)+going) {
		t.Fatalf("connection %d: %d sent, %d taken, %d under way; %d written, %d heard, %d under way", c, len(g.sent), len(g.took), coming, len(g.wrote), len(heard), going)
	}
}

// P1602 to P1604, P1605: whatever is called, by chance, a net tells what its plain likeness does; nothing is lost or turned about, but by a cut or a close.
func TestAnyCalls(t *testing.T) {
	r := rand.New(rand.NewPCG(1, 1))
	conns := []int{1, 2, 3, 63, 64}
	taken, heard, ended := 0, 0, 0
	for range 600 {
		in, out := 1+r.IntN(9), 1+r.IntN(9)
		x := newBoth(t, in, out)
		runs := map[int]*run{}
		for _, c := range conns {
			runs[c] = &run{}
		}
		ends := r.IntN(20)
		for range 300 {
			k := anyCall(r, conns, ends)
			runs[k.c].note(k, x.do(k))
			wantKept(t, x.n, k.c, runs[k.c], in, out)
			x.do(anyCall(r, wrongConns(), 300))
		}
		moved := 0
		for _, c := range conns {
			g := runs[c]
			moved += g.brought + g.fetched
			taken, heard = taken+len(g.took), heard+g.fetched
			if g.ended {
				ended++
			}
			wantKept(t, x.n, c, g, in, out)
		}
		if x.n.Moved() != moved {
			t.Fatalf("Moved: %d; want %d", x.n.Moved(), moved)
		}
	}
	if taken < 15000 || heard < 15000 || ended < 500 || ended > 2500 {
		t.Errorf("%d taken, %d heard, %d ended: this tests too little", taken, heard, ended)
	}
}

// P1605: what is brought, taken, fetched till nothing is left is all that was sent and written.
func TestNothingIsLost(t *testing.T) {
	r := rand.New(rand.NewPCG(2, 2))
	for range 200 {
		n := newNet(t, 1+r.IntN(9), 1+r.IntN(9))
		n.Open(7)
		g := &run{}
		for range 200 {
			k := anyCall(r, []int{7}, 0)
			g.note(k, do(n, k))
		}
		// 200 calls leave 2400 bytes at most, and each turn moves one each way.
		for range 2400 {
			for _, name := range []string{"Bring", "Take", "Fetch"} {
				k := call{name: name, c: 7, most: 1 + r.IntN(3)}
				g.note(k, do(n, k))
			}
		}
		if heard, _ := n.Heard(7); !bytes.Equal(g.took, g.sent) || !bytes.Equal(heard, g.wrote) {
			t.Fatalf("taken %v of %v; heard %v of %v", g.took, g.sent, heard, g.wrote)
		}
	}
}

// P1606: what is told of a connection is the same, whatever others do; two nets, one of which has that connection alone.
func TestConnsAreApart(t *testing.T) {
	r := rand.New(rand.NewPCG(3, 3))
	for range 200 {
		own := []int{1, 2, 5, 63, 64}[r.IntN(5)]
		others := slices.DeleteFunc([]int{1, 2, 3, 4, 5, 6, 62, 63, 64, 0, 65}, func(c int) bool { return c == own })
		in, out := 1+r.IntN(9), 1+r.IntN(9)
		alone, among := newNet(t, in, out), newNet(t, in, out)
		for range 300 {
			if k := anyCall(r, []int{own}, 10); r.IntN(4) == 0 {
				if one, two := do(alone, k), do(among, k); one != two {
					t.Fatalf("%s(%d): %v alone, %v among others", k.name, own, one, two)
				}
			} else {
				do(among, anyCall(r, others, 10))
			}
			if one, two := viewOf(alone, own), viewOf(among, own); one != two {
				t.Fatalf("connection %d: %v alone, %v among others", own, one, two)
			}
		}
	}
}

// P1606: each call of each kind, of each other connection, leaves a connection in any state as it was.
func TestOthersChangeNothing(t *testing.T) {
	for state := range 5 {
		for _, name := range callNames() {
			x := inState(t, state)
			before := viewOf(x.n, 3)
			for c := 1; c <= 64; c++ {
				if c == 3 {
					continue
				}
				x.open(c)
				x.send(c, numbered(c, 5))
				x.bring(c, 2)
				x.write(c, numbered(c, 5))
				do(x.n, call{name, c, 9, numbered(c, 2)})
				if got := viewOf(x.n, 3); got != before {
					t.Fatalf("%s(%d): connection 3: %v; was %v", name, c, got, before)
				}
				x.p.do(call{name, c, 9, numbered(c, 2)})
			}
			// Only what it has is told of it then.
			x.bring(3, 9)
			x.do(call{name: "Take", c: 3})
			x.fetch(3, 9)
		}
	}
}

// P1604, P1606: connections have nothing in common but what was moved: a goroutine for each of them.
func TestConnsAtOnce(t *testing.T) {
	n := newNet(t, 5, 3)
	const length = 3000
	var all sync.WaitGroup
	for c := 1; c <= 64; c++ {
		all.Go(func() {
			n.Open(c)
			n.Send(c, numbered(c, length))
			for range length {
				n.Bring(c, 3)
				b, _ := n.Take(c)
				n.Write(c, b)
				n.Fetch(c, 2)
				n.Under(c)
				n.Fetch(c, 9)
			}
		})
	}
	all.Wait()
	for c := 1; c <= 64; c++ {
		wantHeard(t, n, c, false, numbered(c, length)...)
	}
	if got := n.Moved(); got != 64*2*length {
		t.Errorf("Moved: %d; want %d", got, 64*2*length)
	}
}

// P1: every call ends and none panics, whatever is given; P4: with an error nothing changes, and zero values stand beside it.
func TestWhateverIsGiven(t *testing.T) {
	for _, in := range append(anyConns(), mosts()...) {
		for _, out := range append(anyConns(), mosts()...) {
			n, errno := net.New(in, out)
			right := in >= 1 && in <= 1<<17 && out >= 1 && out <= 1<<17
			if (n != nil) != right || (errno == api.OK) != right || !right && errno != api.ErrArg {
				t.Fatalf("New(%d, %d): %v, %v", in, out, n, errno)
			}
		}
	}
	x := newBoth(t, 3, 2)
	for _, name := range []string{"Bring", "Open", "Send", "Bring", "Take", "Send", "Write", "Fetch", "Bring", "Close", "Fetch", "Cut", "Take", "Write", "Close"} {
		for _, c := range anyConns() {
			for _, most := range mosts() {
				x.do(call{name, c, most, nil})
				x.do(call{name, c, most, numbered(c, 3)})
			}
		}
	}
}

// P1: a net that New did not make has connections without any room.
func TestNetOfNothing(t *testing.T) {
	x := both{t, &net.Net{}, newPlain(0, 0)}
	x.same()
	for _, name := range []string{"Send", "Open", "Send", "Bring", "Take", "Write", "Fetch", "Close", "Cut"} {
		for _, c := range anyConns() {
			x.do(call{name, c, 9, []byte{1, 2}})
		}
	}
}

// P2: what is sent and written is not changed, its spare room neither, and not kept: who changes it changes nothing.
func TestGivenBytesAreApart(t *testing.T) {
	for length := range 9 {
		n := newNet(t, 4, 4)
		n.Open(1)
		given := numbered(1, 16)
		front := given[:length]
		n.Send(1, front)
		n.Bring(1, 3)
		n.Write(1, front)
		n.Fetch(1, 3)
		n.Send(1, front)
		n.Send(1, []byte{200})
		n.Write(1, []byte{201})
		if !bytes.Equal(given, numbered(1, 16)) {
			t.Errorf("given bytes are changed: %v", given)
		}
		clear(given)
		sent := slices.Concat(numbered(1, length), numbered(1, length), []byte{200})
		var took []byte
		for range 2 * len(sent) {
			b, _ := n.Take(1)
			took = append(took, b...)
			n.Bring(1, 3)
		}
		wrote := append(numbered(1, min(length, 4)), 201)
		n.Fetch(1, 9)
		if heard, _ := n.Heard(1); !bytes.Equal(took, sent) || !bytes.Equal(heard, wrote) {
			t.Errorf("taken %v; want %v; heard %v; want %v", took, sent, heard, wrote)
		}
	}
}

// spoil writes over a list and its spare room.
func spoil(b []byte) {
	b = b[:cap(b)]
	for i := range b {
		b[i] = 255
	}
}

// P2, P5: who changes what was told, its spare room too, changes nothing; what was told stays as it was.
func TestToldBytesAreApart(t *testing.T) {
	n := newNet(t, 4, 40)
	n.Open(1)
	n.Send(1, numbered(0, 100))
	n.Write(1, numbered(0, 40))
	type told struct{ b, was []byte }
	var kept []told
	var took []byte
	for range 30 {
		n.Bring(1, 4)
		b, _ := n.Take(1)
		took = append(took, b...)
		kept = append(kept, told{b, slices.Clone(b)})
		n.Fetch(1, 1)
		heard, _ := n.Heard(1)
		kept = append(kept, told{heard, slices.Clone(heard)})
		again, _ := n.Heard(1)
		spoil(again)
		n.Write(1, []byte{7})
	}
	for i, k := range kept {
		if !bytes.Equal(k.b, k.was) {
			t.Errorf("told: %v; it is %v now", k.was, k.b)
		}
		spoil(k.b)
		if i+1 < len(kept) && !bytes.Equal(kept[i+1].b, kept[i+1].was) {
			t.Errorf("two answers share memory: %v, %v", kept[i+1].was, kept[i+1].b)
		}
	}
	wantHeard(t, n, 1, false, numbered(0, 30)...)
	if !bytes.Equal(took, numbered(0, 100)) {
		t.Errorf("taken: %v", took)
	}
}

// P2: what was taken and spoilt does not show in what is brought behind it.
func TestTakenBytesAreApart(t *testing.T) {
	n := newNet(t, 8, 1)
	n.Open(1)
	n.Send(1, numbered(0, 200))
	for at := 0; at < 200; at += 5 {
		n.Bring(1, 2)
		n.Bring(1, 3)
		b, _ := n.Take(1)
		if !bytes.Equal(b, numbered(at, 5)) {
			t.Fatalf("Take: %v; want %v", b, numbered(at, 5))
		}
		n.Bring(1, 0)
		spoil(b)
	}
}

// P3, P7: two nets that are called alike tell the same, and have nothing in common with each other or with a third.
func TestTwiceTheSame(t *testing.T) {
	r := rand.New(rand.NewPCG(4, 4))
	for range 100 {
		in, out := 1+r.IntN(9), 1+r.IntN(9)
		one, two, other := newNet(t, in, out), newNet(t, in, out), newNet(t, in, out)
		conns := []int{0, 1, 2, 64}
		for range 300 {
			k := anyCall(r, conns, 10)
			first := do(one, k)
			do(other, anyCall(r, conns, 30))
			if second := do(two, k); first != second {
				t.Fatalf("%s(%d): %v; %v: not twice the same", k.name, k.c, first, second)
			}
			if viewOf(one, k.c) != viewOf(two, k.c) || one.Moved() != two.Moved() {
				t.Fatalf("%s(%d): not twice the same", k.name, k.c)
			}
		}
	}
}
