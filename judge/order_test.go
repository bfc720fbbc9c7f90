package judge_test

import (
	"testing"

	"spate/api"
	"spate/judge"
)

// P2102: the lines at which something is done, in their order.
func TestOrder(t *testing.T) {
	c := small()
	l := join(
		lines(open(1), open(2), taken("a", 5, 7), ask(1, 0, pin()), mark(10), ask(2, 0, pin()), point(2, 0), kill("a", 0)),
		lines(point(1, 0), answer(1, 0, sealed(2)), leave(2), broken(1, api.ErrCut), event("a", 1, 1, api.FLate), leave(1)),
	)
	wantOrder(t, c, l, api.OK, 2, 4, 6, 7, 8, 10, 12, 13)
	wantOrder(t, c, nil, api.OK)
	wantOrder(t, c, lines(open(1), ask(1, 0, pin())), api.OK)
	wantOrder(t, c, lines(open(1), ask(1, 0, pin()), busy(1, 0)), api.OK, 2)
}

// P2102: Legal's number, and no lines beside it.
func TestOrderErrors(t *testing.T) {
	c := small()
	ahead := lines(taken("a", 5, 7))
	wantOrder(t, c, join(ahead, lines(kill("a", 0))), api.ErrPoint)
	wantOrder(t, c, join(ahead, lines(mark(10), mark(11))), api.ErrOrder)
	wantOrder(t, c, join(ahead, lines(event("a", 5, 7, api.FLate))), api.ErrAnswer)
	wantOrder(t, c, join(ahead, lines(api.Line{})), api.ErrField)
	wantOrder(t, c, join(ahead, lines(leave(1))), api.ErrOrder)
	wantOrder(t, two(), lines(by(0, 0, taken(keyOf1, 5, 7))), api.ErrArg)
}

// P2102: in that order a model does all of the history; so what is between these lines may stand elsewhere.
func TestOrderIsDone(t *testing.T) {
	c := small()
	l := join(opened(1), lines(ask(1, 0, get(0, cell("a", 0))), taken("a", 5, 7), point(1, 0), taken("a", 6, 1), answer(1, 0, rows(row("a", 0, 7)))))
	list, errno := judge.Order(c, l)
	if errno != api.OK {
		t.Fatal(errno)
	}
	turned := lines(open(1), l[list[0]], ask(1, 0, get(0, cell("a", 0))), l[list[1]], l[5], l[list[2]])
	legal(t, c, turned...)
}
