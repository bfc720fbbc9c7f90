package net_test

import (
	"bytes"
	"math"
	"testing"

	"spate/api"
	"spate/net"
)

// P1601: just so much room each way, and no connection.
func TestNew(t *testing.T) {
	for _, in := range []int{1, 2, 3, 64, 1<<17 - 1, 1 << 17} {
		for _, out := range []int{1, 2, 5, 100, 1<<17 - 1, 1 << 17} {
			n := newNet(t, in, out)
			for c := 1; c <= 64; c++ {
				if got := viewOf(n, c); got != (view{}) {
					t.Fatalf("connection %d: %v", c, got)
				}
			}
			if n.Moved() != 0 {
				t.Errorf("Moved: %d", n.Moved())
			}
			for _, c := range []int{1, 64} {
				wantErrno(t, "Open", n.Open(c), api.OK)
				wantRoom(t, n, c, in, out)
			}
		}
	}
}

// wantRoom asks that each buffer of a new connection takes just so many bytes.
func wantRoom(t *testing.T, n *net.Net, c, in, out int) {
	t.Helper()
	wantErrno(t, "Send", n.Send(c, numbered(0, in+1)), api.OK)
	count, errno := n.Bring(c, in+1)
	wantCount(t, "Bring", count, errno, in)
	count, errno = n.Bring(c, 1)
	wantCount(t, "Bring", count, errno, 0)
	wantUnder(t, n, c, in+1, 0)
	wantTake(t, n, c, numbered(0, in)...)
	count, errno = n.Bring(c, 1)
	wantCount(t, "Bring", count, errno, 1)
	count, errno = n.Write(c, numbered(7, out+1))
	wantCount(t, "Write", count, errno, out)
	count, errno = n.Write(c, []byte{1})
	wantCount(t, "Write", count, errno, 0)
	wantUnder(t, n, c, 1, out)
	count, errno = n.Fetch(c, out+1)
	wantCount(t, "Fetch", count, errno, out)
	wantHeard(t, n, c, false, numbered(7, out)...)
}

// P1601, P4: wrong numbers, each alone and both.
func TestNewErrors(t *testing.T) {
	wrong := []int{0, 1<<17 + 1, -1, -1 << 17, 1 << 18, 1 << 32, 1<<32 + 1, math.MinInt, math.MaxInt}
	want := func(in, out int) {
		t.Helper()
		if n, errno := net.New(in, out); n != nil || errno != api.ErrArg {
			t.Errorf("New(%d, %d): %v, %v", in, out, n, errno)
		}
	}
	for _, one := range wrong {
		for _, right := range []int{1, 64, 1 << 17} {
			want(one, right)
			want(right, one)
		}
		for _, two := range wrong {
			want(one, two)
		}
	}
}

// P1602: each number once, whatever came of it; nothing is there of it at first.
func TestOpen(t *testing.T) {
	x := newBoth(t, 4, 3)
	for c := 64; c >= 1; c-- {
		wantErrno(t, "Open", x.open(c), api.OK)
		if got := viewOf(x.n, c); got != (view{open: true}) {
			t.Errorf("connection %d: %v", c, got)
		}
		wantTake(t, x.n, c)
		if brought, fetched := x.bring(c, 9), x.fetch(c, 9); brought != 0 || fetched != 0 {
			t.Errorf("connection %d: %d, %d", c, brought, fetched)
		}
		wantErrno(t, "Open", x.open(c), api.ErrTwice)
	}
	x.close(1)
	x.cut(2)
	x.close(64)
	x.cut(64)
	x.send(3, []byte{1, 2})
	for c := 1; c <= 64; c++ {
		wantErrno(t, "Open", x.open(c), api.ErrTwice)
	}
	for _, c := range wrongConns() {
		wantErrno(t, "Open", x.open(c), api.ErrArg)
	}
}

// P1602 to P1604: the chapter's examples, one behind the other.
func TestExamples(t *testing.T) {
	n := newNet(t, 4, 3)
	wantErrno(t, "Open(1)", n.Open(1), api.OK)
	wantErrno(t, "Open(1)", n.Open(1), api.ErrTwice)
	wantErrno(t, "Open(0)", n.Open(0), api.ErrArg)
	wantErrno(t, "Open(65)", n.Open(65), api.ErrArg)

	wantErrno(t, "Send", n.Send(1, []byte{1, 2, 3, 4, 5, 6}), api.OK)
	count, errno := n.Bring(1, 3)
	wantCount(t, "Bring", count, errno, 3)
	count, errno = n.Bring(1, 9)
	wantCount(t, "Bring", count, errno, 1)
	wantUnder(t, n, 1, 6, 0)
	wantTake(t, n, 1, 1, 2, 3, 4)
	wantTake(t, n, 1)
	count, errno = n.Bring(1, 9)
	wantCount(t, "Bring", count, errno, 2)

	count, errno = n.Write(1, []byte{7, 8, 9, 10})
	wantCount(t, "Write", count, errno, 3)
	count, errno = n.Write(1, []byte{10})
	wantCount(t, "Write", count, errno, 0)
	count, errno = n.Fetch(1, 2)
	wantCount(t, "Fetch", count, errno, 2)
	wantHeard(t, n, 1, false, 7, 8)
	count, errno = n.Write(1, []byte{10})
	wantCount(t, "Write", count, errno, 1)
	if n.Moved() != 8 {
		t.Errorf("Moved: %d", n.Moved())
	}

	wantErrno(t, "Close", n.Close(1), api.OK)
	count, errno = n.Write(1, []byte{1})
	if count != 0 || errno != api.ErrGone {
		t.Errorf("Write: %d, %v", count, errno)
	}
	wantUnder(t, n, 1, 0, 2)
	wantHeard(t, n, 1, false, 7, 8)
	count, errno = n.Fetch(1, 9)
	wantCount(t, "Fetch", count, errno, 2)
	wantHeard(t, n, 1, true, 7, 8, 9, 10)
	wantErrno(t, "Cut", n.Cut(1), api.OK)
	wantErrno(t, "Cut", n.Cut(1), api.ErrGone)

	wantErrno(t, "Send(2)", n.Send(2, []byte{1}), api.ErrGone)
	wantHeard(t, n, 2, false)
	wantIs(t, n, 2, false, false)
}

// P1601 to P1604: what each call answers in each state, of bytes or none; a wrong number is ahead of all.
func TestErrorsByState(t *testing.T) {
	gone := []api.Errno{api.ErrGone, api.OK, api.ErrGone, api.ErrGone, api.ErrGone}
	reached := []api.Errno{api.ErrGone, api.OK, api.OK, api.OK, api.OK}
	// Never opened, open, closed, cut, closed and then cut.
	want := map[string][]api.Errno{
		"Open":  {api.OK, api.ErrTwice, api.ErrTwice, api.ErrTwice, api.ErrTwice},
		"Send":  gone,
		"Cut":   {api.ErrGone, api.OK, api.OK, api.ErrGone, api.ErrGone},
		"Fetch": reached,
		"Bring": reached,
		"Take":  gone,
		"Write": gone,
		"Close": gone,
	}
	for _, name := range callNames() {
		for state, errno := range want[name] {
			for _, data := range [][]byte{nil, {}, {1}, numbered(0, 20)} {
				for _, most := range mosts() {
					x := inState(t, state)
					k := call{name, 3, most, data}
					if got := x.do(k); got.errno != errno {
						t.Errorf("%s in state %d: %v; want %v", name, state, got.errno, errno)
					}
					for _, c := range wrongConns() {
						k.c = c
						if got := x.do(k); got != (answer{errno: api.ErrArg}) {
							t.Errorf("%s(%d): %v", name, c, got)
						}
					}
				}
			}
		}
	}
}

// inState is a net whose connection 3 is never opened, open, closed, cut, closed and then cut: with bytes everywhere ahead of that.
func inState(t *testing.T, state int) both {
	t.Helper()
	x := newBoth(t, 4, 3)
	if state == 0 {
		return x
	}
	x.open(3)
	x.send(3, []byte{1, 2, 3})
	x.bring(3, 2)
	x.write(3, []byte{4, 5})
	x.fetch(3, 1)
	if state == 2 || state == 4 {
		wantErrno(t, "Close", x.close(3), api.OK)
	}
	if state == 3 || state == 4 {
		wantErrno(t, "Cut", x.cut(3), api.OK)
	}
	return x
}

// P1603: MaxWay bytes may be on their way, whatever the pieces; those in the in buffer do not count; what is too much is not sent at all.
func TestSendTooMany(t *testing.T) {
	for _, first := range []int{0, 1, 1<<20 - 1, 1 << 20} {
		x := newBoth(t, 3, 1)
		x.open(1)
		x.open(2)
		wantErrno(t, "Send", x.send(1, numbered(0, 1<<20+1)), api.ErrMany)
		wantErrno(t, "Send", x.send(1, numbered(0, 1<<21)), api.ErrMany)
		wantErrno(t, "Send", x.send(1, numbered(0, first)), api.OK)
		wantErrno(t, "Send", x.send(1, numbered(first, 1<<20-first)), api.OK)
		full := func(in int) {
			t.Helper()
			for range 2 {
				wantErrno(t, "Send", x.send(1, []byte{9}), api.ErrMany)
				wantErrno(t, "Send", x.send(1, numbered(0, 1<<20)), api.ErrMany)
				wantErrno(t, "Send", x.send(1, nil), api.OK)
				wantErrno(t, "Send", x.send(1, []byte{}), api.OK)
				wantUnder(t, x.n, 1, in, 0)
			}
			wantErrno(t, "Send", x.send(2, nil), api.OK)
		}
		full(1 << 20)
		x.bring(1, 2)
		wantErrno(t, "Send", x.send(1, numbered(0, 3)), api.ErrMany)
		wantErrno(t, "Send", x.send(1, numbered(1<<20, 2)), api.OK)
		full(1<<20 + 2)
		x.bring(1, 9)
		wantErrno(t, "Send", x.send(1, numbered(1<<20+2, 1)), api.OK)
		full(1<<20 + 3)
		wantTake(t, x.n, 1, 0, 1, 2)
		wantErrno(t, "Send", x.n.Send(1, []byte{9}), api.ErrMany)
	}
}

// P1603: a connection that is gone has no way: ErrGone is ahead of ErrMany.
func TestSendTooManyToOneGone(t *testing.T) {
	for _, end := range []string{"Close", "Cut"} {
		x := newBoth(t, 3, 1)
		wantErrno(t, "Send", x.send(1, numbered(0, 1<<21)), api.ErrGone)
		x.open(1)
		x.send(1, numbered(0, 1<<20))
		x.do(call{name: end, c: 1})
		wantErrno(t, "Send", x.send(1, numbered(0, 1<<21)), api.ErrGone)
		wantErrno(t, "Send", x.send(1, []byte{1}), api.ErrGone)
		wantErrno(t, "Send", x.send(65, numbered(0, 1<<21)), api.ErrArg)
	}
}

// P1603: what is on its way, the room and most: each of them may be the least; below 0 is as 0.
func TestBring(t *testing.T) {
	for _, room := range []int{1, 2, 3, 7} {
		for way := range 9 {
			for _, most := range mosts() {
				for lies := range room + 1 {
					x := newBoth(t, room, 1)
					x.open(1)
					x.send(1, numbered(0, lies))
					x.bring(1, lies)
					x.send(1, numbered(lies, way))
					want := max(0, min(way, room-lies, most))
					if got := x.bring(1, most); got != want {
						t.Errorf("Bring of %d, room for %d, most %d: %d", way, room-lies, most, got)
					}
					wantUnder(t, x.n, 1, lies+way, 0)
					wantTake(t, x.n, 1, numbered(0, lies+want)...)
					wantUnder(t, x.n, 1, way-want, 0)
				}
			}
		}
	}
}

// P1603: Take empties the in buffer, and leaves what is on its way where it is.
func TestTake(t *testing.T) {
	n := newNet(t, 4, 1)
	n.Open(9)
	n.Send(9, numbered(0, 10))
	wantTake(t, n, 9)
	wantUnder(t, n, 9, 10, 0)
	n.Bring(9, 3)
	wantTake(t, n, 9, 0, 1, 2)
	wantTake(t, n, 9)
	wantUnder(t, n, 9, 7, 0)
	n.Bring(9, 3)
	n.Bring(9, 3)
	wantTake(t, n, 9, 3, 4, 5, 6)
	n.Bring(9, 9)
	wantTake(t, n, 9, 7, 8, 9)
	wantTake(t, n, 9)
	wantUnder(t, n, 9, 0, 0)
}

// P1603: what is written, and the room: each may be the least; what is fetched makes room.
func TestWrite(t *testing.T) {
	for _, room := range []int{1, 2, 3, 7} {
		for length := range 10 {
			for lies := range room + 1 {
				x := newBoth(t, 1, room)
				x.open(1)
				x.write(1, numbered(0, lies))
				want := min(length, room-lies)
				if got := x.write(1, numbered(lies, length)); got != want {
					t.Errorf("Write of %d, room for %d: %d", length, room-lies, got)
				}
				wantUnder(t, x.n, 1, 0, lies+want)
				wantHeard(t, x.n, 1, false)
				freed := x.fetch(1, 2)
				if got := x.write(1, numbered(lies+want, room)); got != room-lies-want+freed {
					t.Errorf("Write behind a Fetch of %d: %d", freed, got)
				}
				x.fetch(1, room)
				wantHeard(t, x.n, 1, false, numbered(0, room+freed)...)
			}
		}
	}
}

// P1603: what the out buffer has, and most: each may be the least; below 0 is as 0.
func TestFetch(t *testing.T) {
	for lies := range 8 {
		for _, most := range mosts() {
			x := newBoth(t, 1, 7)
			x.open(1)
			x.write(1, numbered(0, lies))
			want := max(0, min(lies, most))
			if got := x.fetch(1, most); got != want {
				t.Errorf("Fetch of %d, most %d: %d", lies, most, got)
			}
			wantHeard(t, x.n, 1, false, numbered(0, want)...)
			wantUnder(t, x.n, 1, 0, lies-want)
		}
	}
}

// P1603, P1604: behind a Close nothing comes in; what lies in the out buffer is still fetched, by pieces; then it is at its end.
func TestClose(t *testing.T) {
	for lies := range 6 {
		x := newBoth(t, 4, 5)
		x.open(5)
		x.send(5, numbered(0, 9))
		x.bring(5, 3)
		x.write(5, numbered(0, lies))
		wantErrno(t, "Close", x.close(5), api.OK)
		wantIs(t, x.n, 5, false, false)
		wantUnder(t, x.n, 5, 0, lies)
		if got := x.bring(5, 9); got != 0 {
			t.Errorf("Bring of a closed one: %d", got)
		}
		for n := range lies {
			wantHeard(t, x.n, 5, false, numbered(0, n)...)
			if got := x.fetch(5, 1); got != 1 {
				t.Errorf("Fetch: %d", got)
			}
		}
		wantHeard(t, x.n, 5, true, numbered(0, lies)...)
		if got := x.fetch(5, 1); got != 0 {
			t.Errorf("Fetch at the end: %d", got)
		}
		wantErrno(t, "Close", x.close(5), api.ErrGone)
		wantHeard(t, x.n, 5, true, numbered(0, lies)...)
	}
}

// P1603, P1604: behind a Cut nothing is under way; what was heard stays, and is at its end.
func TestCut(t *testing.T) {
	for _, closed := range []bool{false, true} {
		x := newBoth(t, 4, 5)
		x.open(5)
		x.send(5, numbered(0, 9))
		x.bring(5, 3)
		x.write(5, numbered(0, 5))
		x.fetch(5, 2)
		if closed {
			x.close(5)
			wantUnder(t, x.n, 5, 0, 3)
		}
		wantHeard(t, x.n, 5, false, 0, 1)
		wantErrno(t, "Cut", x.cut(5), api.OK)
		wantIs(t, x.n, 5, false, true)
		wantUnder(t, x.n, 5, 0, 0)
		wantHeard(t, x.n, 5, true, 0, 1)
		if brought, fetched := x.bring(5, 9), x.fetch(5, 9); brought != 0 || fetched != 0 {
			t.Errorf("of a cut one: %d, %d", brought, fetched)
		}
		wantErrno(t, "Cut", x.cut(5), api.ErrGone)
		wantErrno(t, "Close", x.close(5), api.ErrGone)
		wantHeard(t, x.n, 5, true, 0, 1)
	}
}

// P1604: one that was never opened, and such as may not be, tell nothing, whatever others have.
func TestViewsOfNone(t *testing.T) {
	n := newNet(t, 4, 5)
	for c := 1; c <= 64; c += 2 {
		n.Open(c)
		n.Send(c, numbered(c, 3))
		n.Write(c, numbered(c, 3))
		n.Fetch(c, 1)
	}
	n.Cut(1)
	n.Close(3)
	for _, c := range append(wrongConns(), 2, 4, 62, 64) {
		if got := viewOf(n, c); got != (view{}) {
			t.Errorf("connection %d: %v", c, got)
		}
	}
}

// P1604: what Bring and Fetch brought counts, of all connections, and nothing else; it stays, whatever comes of them.
func TestMoved(t *testing.T) {
	n := newNet(t, 4, 5)
	want := 0
	check := func(what string) {
		t.Helper()
		if got := n.Moved(); got != want {
			t.Fatalf("%s: Moved: %d; want %d", what, got, want)
		}
	}
	for c := 1; c <= 64; c++ {
		n.Open(c)
		n.Send(c, numbered(0, 6))
		n.Write(c, numbered(0, 9))
		check("on its way")
		n.Bring(c, 3)
		want += 3
		check("Bring")
		n.Bring(c, 9)
		want++
		check("Bring to the room")
		n.Bring(c, 9)
		n.Bring(c, -3)
		check("Bring of none")
		n.Take(c)
		check("Take")
		n.Fetch(c, 2)
		want += 2
		check("Fetch")
		n.Fetch(c, math.MinInt)
		check("Fetch of none")
	}
	for c := 1; c <= 64; c += 2 {
		n.Close(c)
		n.Bring(c, 9)
		check("Close")
		n.Fetch(c, 9)
		want += 3
		check("Fetch of a closed one")
		n.Cut(c + 1)
		n.Bring(c+1, 9)
		n.Fetch(c+1, 9)
		check("Cut")
	}
	for _, c := range wrongConns() {
		n.Bring(c, 9)
		n.Fetch(c, 9)
	}
	check("wrong numbers")
}

// P1603: all bytes go through as they are, by the longest row and room, in pieces of any length.
func TestLongWay(t *testing.T) {
	for _, piece := range []int{1, 4093, 1 << 17} {
		n := newNet(t, 1<<17, 1<<17)
		n.Open(1)
		sent := numbered(3, 1<<20)
		n.Send(1, sent)
		var took []byte
		for range 1<<20/piece + 1 {
			n.Bring(1, piece)
			b, _ := n.Take(1)
			took = append(took, b...)
			count, _ := n.Write(1, b)
			n.Fetch(1, count)
		}
		heard, end := n.Heard(1)
		if !bytes.Equal(took, sent) || !bytes.Equal(heard, sent) || end {
			t.Errorf("in pieces of %d: %d taken, %d heard, %v", piece, len(took), len(heard), end)
		}
		if n.Moved() != 2<<20 {
			t.Errorf("Moved: %d", n.Moved())
		}
	}
}
