package judge_test

import (
	"math"
	"testing"

	"spate/api"
)

// P2104: the values that were taken while their windows were open, without those cells that are closed at the end.
func TestFold(t *testing.T) {
	c := small()
	high := int64(math.MaxInt64)
	l := join(
		lines(taken("b", 5, 7), taken("a", 6, -2), open(1), taken("b", 9, 1), taken("a", 12, high), event("a", 13, 1, api.FOverflow)),
		lines(event("b", 25, 3, api.FFull), taken("b", 25, 4), ask(1, 0, pin()), point(1, 0)),
		lines(mark(10), kill("a", 0), kill("b", 0), event("a", 9, 1, api.FLate), taken("a", 14, -9), mark(4)),
	)
	wantFold(t, c, nil, api.Stats{})
	wantFold(t, c, l[:1], api.Stats{Taken: 1, Cells: 1}, row("b", 0, 7))
	wantFold(t, c, l[:8], api.Stats{Taken: 5, Overflow: 1, Full: 1, Cells: 4}, row("a", 0, -2), row("a", 10, high), row("b", 0, 7, 1), row("b", 20, 4))
	// What is closed at the end is not told, whether it was killed or not.
	for n := 11; n <= 13; n++ {
		wantFold(t, c, l[:n], api.Stats{Taken: 5, Overflow: 1, Full: 1, Cells: 2}, row("a", 10, high), row("b", 20, 4))
	}
	wantFold(t, c, l, api.Stats{Taken: 6, Late: 1, Overflow: 1, Full: 1, Cells: 2}, row("a", 10, high, -9), row("b", 20, 4))
}

// P2104: an event is in the cells of its open windows alone, of all views; each key has the marks of its own operator.
func TestFoldWindows(t *testing.T) {
	c := two()
	c.Views = []api.View{{Size: 10, Slide: 5}, {Size: 10, Slide: 10, Late: 4}}
	up := func(operator int, time int64) []api.Line {
		return lines(by(operator, 0, mark(time)), by(operator, 1, mark(time)))
	}
	a, b := by(1, 0, taken(keyOf1, 7, 1)), by(0, 1, taken(keyOf0, 7, 2))
	l := join(up(1, 10), lines(a, b, by(1, 1, taken(keyOf1, 8, 5))))
	in := func(view int, key string, start int64, values ...int64) api.Row {
		return rowOf(api.Cell{View: view, Key: key, Start: start}, values)
	}
	wantFold(t, c, l, api.Stats{Taken: 3, Cells: 5},
		in(0, keyOf1, 5, 1, 5), in(0, keyOf0, 0, 2), in(0, keyOf0, 5, 2), in(1, keyOf1, 0, 1, 5), in(1, keyOf0, 0, 2))
	wantFold(t, c, join(l, up(1, 14)), api.Stats{Taken: 3, Cells: 4},
		in(0, keyOf1, 5, 1, 5), in(0, keyOf0, 0, 2), in(0, keyOf0, 5, 2), in(1, keyOf0, 0, 2))
	wantFold(t, c, join(l, up(1, 15), lines(by(0, 0, mark(90)))), api.Stats{Taken: 3, Cells: 3},
		in(0, keyOf0, 0, 2), in(0, keyOf0, 5, 2), in(1, keyOf0, 0, 2))
}

// P2104: requests change nothing of it, and Now is 0.
func TestFoldOfRequests(t *testing.T) {
	l := join(opened(1), whole(1, 0, pin(), sealed(1)), lines(taken("a", 5, 7)), whole(1, 1, scan(0, 3), rows(row("a", 0, 7))), lines(leave(1)))
	wantFold(t, small(), l, api.Stats{Taken: 1, Cells: 1}, row("a", 0, 7))
}

// P2104: Legal's number, and nothing beside it.
func TestFoldErrors(t *testing.T) {
	c := small()
	ahead := lines(taken("a", 5, 7), taken("b", 5, 7))
	noFold(t, c, join(ahead, lines(kill("a", 0))), api.ErrPoint)
	noFold(t, c, join(ahead, lines(mark(10), kill("b", 0))), api.ErrOrder)
	noFold(t, c, join(ahead, lines(event("a", 5, 7, api.FOverflow))), api.ErrAnswer)
	noFold(t, c, join(ahead, opened(1), whole(1, 0, pin(), sealed(2))), api.ErrAnswer)
	noFold(t, c, join(ahead, lines(api.Line{})), api.ErrField)
	noFold(t, two(), lines(by(1, 0, taken(keyOf0, 5, 7))), api.ErrArg)
}
