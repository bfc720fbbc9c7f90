package oper_test

import (
	"math"
	"math/rand/v2"
	"slices"
	"testing"

	"spate/api"
)

// faulty are cells of the chapter's views, under the mark 18, with the first error of each; many have several.
func faulty() map[api.Cell]api.Errno {
	long := wrongKeys()[1]
	return map[api.Cell]api.Errno{
		cell(2, "k", 20):               api.ErrView,
		cell(-1, "k", 20):              api.ErrView,
		cell(3, "k", 20):               api.ErrView,
		cell(4, "k", 20):               api.ErrView,
		cell(1<<32, "k", 20):           api.ErrView,
		cell(math.MinInt, "k", 20):     api.ErrView,
		cell(math.MaxInt, "k", 20):     api.ErrView,
		cell(2, "", 1<<62):             api.ErrView,
		cell(2, "k", 3):                api.ErrView,
		cell(0, "", 20):                api.ErrKey,
		cell(1, long, 20):              api.ErrKey,
		cell(0, "", 1<<61+1):           api.ErrKey,
		cell(0, long, 3):               api.ErrKey,
		cell(1, "", 0):                 api.ErrKey,
		cell(0, "k", 1<<61+1):          api.ErrTime,
		cell(0, "k", -1<<61-1):         api.ErrTime,
		cell(0, "k", 1<<61+8):          api.ErrTime,
		cell(0, "k", -1<<61-8):         api.ErrTime,
		cell(1, "k", most):             api.ErrTime,
		cell(1, "k", least):            api.ErrTime,
		cell(0, "k", 21):               api.ErrField,
		cell(0, "k", 15):               api.ErrField,
		cell(1, "k", 6):                api.ErrField,
		cell(1, "k", -3):               api.ErrField,
		cell(0, "k", 1<<61):            api.ErrField,
		cell(0, "k", -1<<61):           api.ErrField,
		cell(0, "k", 0):                api.ErrLate,
		cell(0, "k", -1<<61+2):         api.ErrLate,
		cell(1, "k", 5):                api.ErrLate,
		cell(1, rightKeys()[12], -100): api.ErrLate,
	}
}

// P1404: each error alone, and where several apply, the first; P4: nothing is live by it.
func TestWroteErrors(t *testing.T) {
	for c, why := range faulty() {
		o := newOper(t, 1, exampleViews()...)
		wantMark(t, o, 0, 18)
		wantWrote(t, o, why, c)
		wantState(t, o, 18)
	}
}

// P1404, P6: of several cells the error of the first one that has any, whatever those behind it have; P4: those ahead of it are not live.
func TestWroteFirstCell(t *testing.T) {
	o := newOper(t, 1, exampleViews()...)
	wantMark(t, o, 0, 18)
	wantWrote(t, o, api.OK, cell(1, "m", 20))
	for c, why := range faulty() {
		for d := range faulty() {
			wantWrote(t, o, why, c, d)
			wantWrote(t, o, why, cell(0, "a", 10), cell(1, "a", 10), c, cell(0, "z", 30), d)
		}
		wantWrote(t, o, why, cell(0, "a", 10), c)
		wantWrote(t, o, why, c, cell(0, "a", 10))
		wantWrote(t, o, why, cell(1, "m", 20), c)
		wantState(t, o, 18, cell(1, "m", 20))
	}
	wantMark(t, o, 0, 1<<60, cell(1, "m", 20))
}

// P1404: windows begin at the multiples of Slide alone, those below 0 and 0 among them.
func TestWroteWhereNoneBegins(t *testing.T) {
	for _, v := range []api.View{{Size: 10, Slide: 10}, {Size: 2, Slide: 10}, {Size: 20, Slide: 7}, {Size: 1, Slide: 1}} {
		x := newBoth(t, 1, v)
		for start := int64(-40); start <= 40; start++ {
			want := api.ErrField
			if start == start/v.Slide*v.Slide {
				want = api.OK
			}
			wantWrote(t, newOper(t, 1, v), want, cell(0, "k", start))
			x.wrote(cell(0, "k", start))
		}
	}
}

// P1404: starts at the bounds; far beyond all times windows begin as well.
func TestWroteAtTheBounds(t *testing.T) {
	x := newBoth(t, 1, api.View{Size: api.MaxSpan, Slide: api.MaxSpan, Late: api.MaxSpan}, api.View{Size: 1, Slide: 3})
	if x.wrote(cell(0, "k", 1<<61), cell(0, "k", -1<<61)) != api.OK {
		t.Error("the bounds are starts")
	}
	// 1 << 61 is 2 behind a multiple of 3.
	for start, want := range map[int64]api.Errno{1 << 61: api.ErrField, 1<<61 - 1: api.ErrField, 1<<61 - 2: api.OK, 1<<61 + 1: api.ErrTime, -1 << 61: api.ErrField, -1<<61 + 2: api.OK, -1<<61 - 1: api.ErrTime} {
		wantWrote(t, newOper(t, 1, api.View{Size: 1, Slide: 3}), want, cell(0, "k", start))
		x.wrote(cell(1, "k", start))
	}
	x.mark(0, -1<<60)
	x.mark(0, 1<<60)
	wantState(t, x.o, 1<<60, cell(0, "k", 1<<61), cell(1, "k", 1<<61-2))
}

// P1404: late from just that mark on that is the window's end and Late; the least mark counts.
func TestWroteLate(t *testing.T) {
	o := newOper(t, 2, api.View{Size: 10, Slide: 5, Late: 3}, api.View{Size: 10, Slide: 5})
	wantMark(t, o, 0, 1000)
	wantWrote(t, o, api.OK, cell(0, "a", 5), cell(1, "a", 5))
	wantMark(t, o, 1, 15, cell(1, "a", 5))
	wantWrote(t, o, api.ErrLate, cell(1, "b", 5))
	wantMark(t, o, 1, 17)
	wantWrote(t, o, api.OK, cell(0, "b", 5))
	wantMark(t, o, 1, 18, cell(0, "a", 5), cell(0, "b", 5))
	wantWrote(t, o, api.ErrLate, cell(0, "c", 5))
	wantWrote(t, o, api.OK, cell(0, "c", 10))
	wantState(t, o, 18, cell(0, "c", 10))
}

// P1404: each cell is live once, however often it was written.
func TestWroteAgain(t *testing.T) {
	o := newOper(t, 1, exampleViews()...)
	wantWrote(t, o, api.OK, cell(1, "k", 5), cell(0, "k", 10), cell(1, "k", 5))
	wantState(t, o, api.NoMark, cell(0, "k", 10), cell(1, "k", 5))
	wantWrote(t, o, api.OK, cell(0, "k", 10))
	wantWrote(t, o, api.OK, cell(0, "k", 20), cell(0, "k", 10))
	wantState(t, o, api.NoMark, cell(0, "k", 10), cell(0, "k", 20), cell(1, "k", 5))
	wantMark(t, o, 0, 20, cell(0, "k", 10), cell(1, "k", 5))
	wantMark(t, o, 0, 30, cell(0, "k", 20))
	wantMark(t, o, 0, 40)
}

// P1404: no cells are right, and change nothing.
func TestWroteNone(t *testing.T) {
	o := newOper(t, 1, exampleViews()...)
	wantWrote(t, o, api.OK)
	wantState(t, o, api.NoMark)
	wantWrote(t, o, api.OK, cell(0, "k", 0))
	wantWrote(t, o, api.OK)
	wantState(t, o, api.NoMark, cell(0, "k", 0))
}

// P1404: what was not told by Take may be written as well: other keys, other windows, many at once.
func TestWroteMany(t *testing.T) {
	r := rand.New(rand.NewPCG(2, 2))
	x := newBoth(t, 1, exampleViews()...)
	var cells []api.Cell
	for _, key := range rightKeys() {
		for n := int64(-5); n <= 5; n++ {
			cells = append(cells, cell(0, key, 10*n), cell(1, key, 5*n))
		}
	}
	r.Shuffle(len(cells), func(i, j int) { cells[i], cells[j] = cells[j], cells[i] })
	if x.wrote(cells...) != api.OK || len(x.o.Live()) != len(cells) {
		t.Errorf("%d of %d are live", len(x.o.Live()), len(cells))
	}
	if !slices.Equal(x.o.Live(), ordered(cells)) {
		t.Errorf("%v: not in order", x.o.Live())
	}
	for mark := int64(-60); mark <= 70; mark++ {
		x.mark(0, mark)
	}
	wantState(t, x.o, 70)
}
