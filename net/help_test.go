package net_test

import (
	"bytes"
	"math"
	"math/rand/v2"
	"testing"

	"spate/api"
	"spate/net"
)

// plainConn is the likeness of a connection: all that was ever sent and written, and how far it came.
type plainConn struct {
	opened, closed, cut bool
	sent                []byte
	brought, took       int // of sent
	wrote               []byte
	heard               int // of wrote
	lostIn, lostOut     bool
}

func (c *plainConn) way() int {
	if c.lostIn {
		return 0
	}
	return len(c.sent) - c.brought
}

func (c *plainConn) inBuffer() int {
	if c.lostIn {
		return 0
	}
	return c.brought - c.took
}

func (c *plainConn) outBuffer() int {
	if c.lostOut {
		return 0
	}
	return len(c.wrote) - c.heard
}

// plain is the likeness of a net.
type plain struct {
	in, out, moved int
	conns          map[int]*plainConn
}

func newPlain(in, out int) *plain {
	p := &plain{in: in, out: out, conns: map[int]*plainConn{}}
	for c := 1; c <= 64; c++ {
		p.conns[c] = &plainConn{}
	}
	return p
}

// reached tells the error that all calls of a connection but Open answer first.
func (p *plain) reached(c int) (*plainConn, api.Errno) {
	x := p.conns[c]
	switch {
	case x == nil:
		return nil, api.ErrArg
	case !x.opened:
		return nil, api.ErrGone
	}
	return x, api.OK
}

// whole tells the error of calls that a cut and a close end.
func (p *plain) whole(c int) (*plainConn, api.Errno) {
	x, errno := p.reached(c)
	if errno == api.OK && (x.closed || x.cut) {
		return nil, api.ErrGone
	}
	return x, errno
}

func (p *plain) open(c int) api.Errno {
	x := p.conns[c]
	switch {
	case x == nil:
		return api.ErrArg
	case x.opened:
		return api.ErrTwice
	}
	x.opened = true
	return api.OK
}

func (p *plain) send(c int, b []byte) api.Errno {
	x, errno := p.whole(c)
	if errno != api.OK {
		return errno
	}
	if x.way()+len(b) > 1048576 {
		return api.ErrMany
	}
	x.sent = append(x.sent, b...)
	return api.OK
}

func (p *plain) bring(c, most int) (int, api.Errno) {
	x, errno := p.reached(c)
	n := 0
	for errno == api.OK && n < most && x.way() > 0 && x.inBuffer() < p.in {
		x.brought++
		n++
	}
	p.moved += n
	return n, errno
}

func (p *plain) take(c int) ([]byte, api.Errno) {
	x, errno := p.whole(c)
	if errno != api.OK {
		return nil, errno
	}
	all := x.sent[x.took:x.brought]
	x.took = x.brought
	return all, api.OK
}

func (p *plain) write(c int, b []byte) (int, api.Errno) {
	x, errno := p.whole(c)
	n := 0
	for errno == api.OK && n < len(b) && x.outBuffer() < p.out {
		x.wrote = append(x.wrote, b[n])
		n++
	}
	return n, errno
}

func (p *plain) fetch(c, most int) (int, api.Errno) {
	x, errno := p.reached(c)
	n := 0
	for errno == api.OK && n < most && x.outBuffer() > 0 {
		x.heard++
		n++
	}
	p.moved += n
	return n, errno
}

func (p *plain) close(c int) api.Errno {
	x, errno := p.whole(c)
	if errno == api.OK {
		x.closed, x.lostIn = true, true
	}
	return errno
}

func (p *plain) cut(c int) api.Errno {
	x, errno := p.reached(c)
	if errno != api.OK {
		return errno
	}
	if x.cut {
		return api.ErrGone
	}
	x.cut, x.lostIn, x.lostOut = true, true, true
	return api.OK
}

// view is all that is told of a connection by calls that change nothing.
type view struct {
	heard     string
	end       bool
	open, cut bool
	in, out   int
}

func (p *plain) view(c int) view {
	x, errno := p.reached(c)
	if errno != api.OK {
		return view{}
	}
	return view{
		heard: string(x.wrote[:x.heard]),
		end:   x.cut || x.closed && x.outBuffer() == 0,
		open:  !x.closed && !x.cut,
		cut:   x.cut,
		in:    x.way() + x.inBuffer(),
		out:   x.outBuffer(),
	}
}

func viewOf(n *net.Net, c int) view {
	var v view
	var b []byte
	b, v.end = n.Heard(c)
	v.heard = string(b)
	v.open, v.cut = n.Is(c)
	v.in, v.out = n.Under(c)
	return v
}

func newNet(t *testing.T, in, out int) *net.Net {
	t.Helper()
	n, errno := net.New(in, out)
	if errno != api.OK || n == nil {
		t.Fatalf("New(%d, %d): %v, %v", in, out, n, errno)
	}
	return n
}

// both are a net and its plain likeness; what is called is called of both, and held against each other.
type both struct {
	t *testing.T
	n *net.Net
	p *plain
}

func newBoth(t *testing.T, in, out int) both {
	t.Helper()
	return both{t, newNet(t, in, out), newPlain(in, out)}
}

// call names a call of a connection; most and data are what it is given, where it takes some.
type call struct {
	name string
	c    int
	most int
	data []byte
}

// answer is what a call tells: each has at most one of count and data beside its error.
type answer struct {
	count int
	data  string
	errno api.Errno
}

func callNames() []string {
	return []string{"Open", "Send", "Cut", "Fetch", "Bring", "Take", "Write", "Close"}
}

func do(n *net.Net, k call) answer {
	var a answer
	var b []byte
	switch k.name {
	case "Open":
		a.errno = n.Open(k.c)
	case "Send":
		a.errno = n.Send(k.c, k.data)
	case "Cut":
		a.errno = n.Cut(k.c)
	case "Fetch":
		a.count, a.errno = n.Fetch(k.c, k.most)
	case "Bring":
		a.count, a.errno = n.Bring(k.c, k.most)
	case "Take":
		b, a.errno = n.Take(k.c)
	case "Write":
		a.count, a.errno = n.Write(k.c, k.data)
	case "Close":
		a.errno = n.Close(k.c)
	default:
		panic(k.name)
	}
	a.data = string(b)
	return a
}

func (p *plain) do(k call) answer {
	var a answer
	var b []byte
	switch k.name {
	case "Open":
		a.errno = p.open(k.c)
	case "Send":
		a.errno = p.send(k.c, k.data)
	case "Cut":
		a.errno = p.cut(k.c)
	case "Fetch":
		a.count, a.errno = p.fetch(k.c, k.most)
	case "Bring":
		a.count, a.errno = p.bring(k.c, k.most)
	case "Take":
		b, a.errno = p.take(k.c)
	case "Write":
		a.count, a.errno = p.write(k.c, k.data)
	case "Close":
		a.errno = p.close(k.c)
	}
	a.data = string(b)
	return a
}

func (x both) do(k call) answer {
	x.t.Helper()
	got, want := do(x.n, k), x.p.do(k)
	if got != want {
		x.t.Fatalf("%s(%d), most %d, %d bytes: %.60v; want %.60v", k.name, k.c, k.most, len(k.data), got, want)
	}
	x.same()
	return got
}

func (x both) open(c int) api.Errno {
	x.t.Helper()
	return x.do(call{name: "Open", c: c}).errno
}

func (x both) send(c int, b []byte) api.Errno {
	x.t.Helper()
	return x.do(call{name: "Send", c: c, data: b}).errno
}

func (x both) cut(c int) api.Errno {
	x.t.Helper()
	return x.do(call{name: "Cut", c: c}).errno
}

func (x both) fetch(c, most int) int {
	x.t.Helper()
	return x.do(call{name: "Fetch", c: c, most: most}).count
}

func (x both) bring(c, most int) int {
	x.t.Helper()
	return x.do(call{name: "Bring", c: c, most: most}).count
}

func (x both) take(c int) string {
	x.t.Helper()
	return x.do(call{name: "Take", c: c}).data
}

func (x both) write(c int, b []byte) int {
	x.t.Helper()
	return x.do(call{name: "Write", c: c, data: b}).count
}

func (x both) close(c int) api.Errno {
	x.t.Helper()
	return x.do(call{name: "Close", c: c}).errno
}

// same asks all that changes nothing; also of connections that may not be.
func (x both) same() {
	x.t.Helper()
	for _, c := range anyConns() {
		if got, want := viewOf(x.n, c), x.p.view(c); got != want {
			x.t.Fatalf("connection %d: %.90v; want %.90v", c, got, want)
		}
	}
	if got := x.n.Moved(); got != x.p.moved {
		x.t.Fatalf("Moved: %d; want %d", got, x.p.moved)
	}
}

func wantErrno(t *testing.T, what string, errno, want api.Errno) {
	t.Helper()
	if errno != want {
		t.Errorf("%s: %v; want %v", what, errno, want)
	}
}

func wantCount(t *testing.T, what string, got int, errno api.Errno, want int) {
	t.Helper()
	if got != want || errno != api.OK {
		t.Errorf("%s: %d, %v; want %d", what, got, errno, want)
	}
}

func wantTake(t *testing.T, n *net.Net, c int, want ...byte) {
	t.Helper()
	if got, errno := n.Take(c); !bytes.Equal(got, want) || errno != api.OK {
		t.Errorf("Take(%d): %.20v, %v; want %.20v", c, got, errno, want)
	}
}

func wantHeard(t *testing.T, n *net.Net, c int, end bool, want ...byte) {
	t.Helper()
	if got, is := n.Heard(c); !bytes.Equal(got, want) || is != end {
		t.Errorf("Heard(%d): %.20v, %v; want %.20v, %v", c, got, is, want, end)
	}
}

func wantUnder(t *testing.T, n *net.Net, c, in, out int) {
	t.Helper()
	if gotIn, gotOut := n.Under(c); gotIn != in || gotOut != out {
		t.Errorf("Under(%d): %d, %d; want %d, %d", c, gotIn, gotOut, in, out)
	}
}

func wantIs(t *testing.T, n *net.Net, c int, open, cut bool) {
	t.Helper()
	if gotOpen, gotCut := n.Is(c); gotOpen != open || gotCut != cut {
		t.Errorf("Is(%d): %v, %v; want %v, %v", c, gotOpen, gotCut, open, cut)
	}
}

// wrongConns are numbers that no connection has.
func wrongConns() []int {
	return []int{0, 65, -1, -64, 66, 128, 256, 257, 1 << 32, 1<<32 + 1, -1 << 32, math.MinInt, math.MaxInt}
}

// anyConns are some that may be, and all that may not.
func anyConns() []int {
	return append(wrongConns(), 1, 2, 3, 4, 5, 63, 64)
}

// mosts are numbers that a Bring or a Fetch may be told.
func mosts() []int {
	return []int{0, 1, 2, 3, 5, 9, 1 << 17, 1 << 20, 1 << 32, math.MaxInt, -1, -5, -1 << 32, math.MinInt}
}

// numbered are bytes that tell their places, as far as a byte can.
func numbered(from, n int) []byte {
	b := make([]byte, n)
	for i := range b {
		b[i] = byte((from + i) % 251)
	}
	return b
}

// anyBytes are few bytes, or none, by chance.
func anyBytes(r *rand.Rand, most int) []byte {
	b := make([]byte, r.IntN(most+1))
	for i := range b {
		b[i] = byte(r.IntN(256))
	}
	return b
}
