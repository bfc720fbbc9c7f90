package net

import (
	"slices"

	"spate/api"
)

// conn is a connection: its in buffer and its out buffer, each with what lies at the client's end of it.
type conn struct {
	inward
	outward
	isClosed, isCut bool
}

// inward is the in buffer, and what is on its way there.
type inward struct {
	buffer
	way buffer
}

// outward is the out buffer, and what was fetched from there.
type outward struct {
	buffer
	heard []byte
}

func newConn(in, out int) *conn {
	return &conn{
		inward:  inward{buffer: buffer{room: in}, way: buffer{room: api.MaxWay}},
		outward: outward{buffer: buffer{room: out}},
	}
}

func (c *conn) isOpen() bool {
	return !c.isClosed && !c.isCut
}

// isAtEnd asks whether the client will hear nothing more.
func (c *conn) isAtEnd() bool {
	return c.isCut || c.isClosed && c.going() == 0
}

func (c *conn) close() {
	c.isClosed = true
	c.inward.lose()
}

func (c *conn) cut() {
	c.isCut = true
	c.inward.lose()
	c.outward.empty()
}

// send answers false, if not all of it may be on its way.
func (i *inward) send(bytes []byte) bool {
	if len(bytes) > i.way.free() {
		return false
	}
	i.way.lay(bytes)
	return true
}

func (i *inward) bring(most int) int {
	n := i.lay(i.way.front(most))
	i.way.drop(n)
	return n
}

// take hands the row itself out: emptied, the buffer begins a new one.
func (i *inward) take() []byte {
	all := i.row
	i.empty()
	return all
}

func (i *inward) coming() int {
	return len(i.way.row) + len(i.row)
}

func (i *inward) lose() {
	i.way.empty()
	i.empty()
}

func (o *outward) write(bytes []byte) int {
	return o.lay(bytes)
}

func (o *outward) fetch(most int) int {
	first := o.front(most)
	o.heard = append(o.heard, first...)
	o.drop(len(first))
	return len(first)
}

func (o *outward) going() int {
	return len(o.row)
}

func (o *outward) told() []byte {
	return slices.Clone(o.heard)
}
