package serve_test

import (
	"bytes"
	"slices"
	"testing"

	"spate/api"
	"spate/serve"
)

// Row A: Admit requests may be done at a time; a refused one has its point there, and changes nothing (T7).
func TestBusy(t *testing.T) {
	s := fed(t, with(func(c *api.Config) { c.Admit, c.Out = 2, 3 }), "a", 1, 2, 3)
	ask(t, s, 1, pin(1))
	ask(t, s, 2, stats(2))
	ask(t, s, 3, pin(3), pin(4))
	step(t, s, 3, 2)
	step(t, s, 4, 2)
	wantNext(t, s, 5, lineAsk(3, 0, pin(3)))
	wantNext(t, s, 5, lineBusy(3, 0))
	wantState(t, s, 5, api.TReady)
	settle(t, s)
	wantResponses(t, s, 1, sealed(1, 1))
	wantResponses(t, s, 3, bad(3, api.ErrBusy), sealed(4, 2))
	wantBook(t, s, 3, 2, 2)
}

// Row A: ErrBusy is ahead of ErrEpoch; who is refused for its epoch is not being done.
func TestBusyOrNotHeld(t *testing.T) {
	s := fed(t, with(func(c *api.Config) { c.Admit = 1 }), "a", 1, 2, 3)
	q := get(1, 5, cell("a", 0))
	ask(t, s, 1, q)
	ask(t, s, 2, q)
	ask(t, s, 3, stats(2))
	step(t, s, 3, 2) // refused: it counts for nothing
	step(t, s, 5, 2)
	wantNext(t, s, 4, lineAsk(2, 0, q))
	wantNext(t, s, 4, lineBusy(2, 0))
	wantNext(t, s, 3, lineAnswer(1, 0, bad(1, api.ErrEpoch)))
	step(t, s, 4, 1)
	settle(t, s)
	wantResponses(t, s, 1, bad(1, api.ErrEpoch))
	wantResponses(t, s, 2, bad(1, api.ErrBusy))
	wantResponses(t, s, 3, counts(2, api.Stats{Taken: 1, Cells: 1, Now: 1}))
}

// Row X: a request is done when its answer is written whole, or its client has cut; one that was refused is not done twice.
func TestDone(t *testing.T) {
	for _, byCut := range []bool{false, true} {
		s := resting(t, with(func(c *api.Config) { c.Admit, c.Out = 1, 4 }), 1, 2, 3)
		ask(t, s, 1, stats(1))
		step(t, s, 3, 4)
		wantState(t, s, 3, api.TWaiting)
		ask(t, s, 2, stats(2), stats(3))
		step(t, s, 4, 3)
		wantState(t, s, 4, api.TWaiting)
		do(t, s, fetch(2, 99))
		step(t, s, 4, 1)
		do(t, s, fetch(2, 99))
		wantNext(t, s, 4, lineAsk(2, 1, stats(3)))
		wantNext(t, s, 4, lineBusy(2, 1))
		if byCut {
			do(t, s, cut(1))
			step(t, s, 3, 1)
		} else {
			for range 2 {
				do(t, s, fetch(1, 99))
				step(t, s, 3, 1)
			}
		}
		// One may be done now, and one alone.
		ask(t, s, 3, stats(4))
		step(t, s, 5, 2)
		ask(t, s, 2, stats(5))
		settle(t, s)
		wantResponses(t, s, 2, bad(2, api.ErrBusy), bad(3, api.ErrBusy), bad(5, api.ErrBusy))
		wantResponses(t, s, 3, counts(4, api.Stats{Now: 1}))
	}
}

// Row X: what goes into the out buffer goes; the answer is told when all of it is there.
func TestLittleRoom(t *testing.T) {
	for out := 1; out <= 13; out++ {
		s := fed(t, with(func(c *api.Config) { c.Out = out }), "a", 1)
		want := rows(300, row("a", 0, 1))
		frame := answered(t, want) // 15 bytes
		ask(t, s, 1, get(300, 0, cell("a", 0)))
		step(t, s, 3, 3)
		for at := out; at < len(frame); at += out {
			wantNext(t, s, 3)
			wantState(t, s, 3, api.TWaiting)
			do(t, s, fetch(1, out))
			b, _ := s.Heard(1)
			wantBytes(t, b, frame[:at])
		}
		wantNext(t, s, 3, lineAnswer(1, 0, want))
		do(t, s, fetch(1, 99))
		wantResponses(t, s, 1, want)
	}
}

// wantLeave lets a session do its last steps: rows V, U.
func wantLeave(t *testing.T, s *serve.Server, task, c int) {
	t.Helper()
	wantNext(t, s, task)
	wantNext(t, s, task, lineLeave(c))
	wantState(t, s, task, api.TEnded)
}

// Rows I, A, G, X, V, U: a client that cuts, at each step of a request: a request that was begun is done up to row X, and no answer is told.
func TestCutAtEachStep(t *testing.T) {
	q := get(1, 0, cell("a", 0))
	lines := [][]api.Line{{lineAsk(1, 0, q)}, nil, {linePoint(1, 0)}}
	for at := range 4 {
		s := fed(t, small(), "a", 1)
		ask(t, s, 1, q)
		for _, l := range lines[:at] {
			wantNext(t, s, 3, l...)
		}
		do(t, s, cut(1))
		wantState(t, s, 3, api.TReady)
		if at == 0 {
			wantNext(t, s, 3) // I
			wantLeave(t, s, 3, 1)
			continue
		}
		for _, l := range lines[at:] {
			wantNext(t, s, 3, l...)
		}
		wantNext(t, s, 3) // X
		wantLeave(t, s, 3, 1)
		b, _ := s.Heard(1)
		wantBytes(t, b, nil)
		wantEnd(t, s, 1, true)
		wantIdle(t, s, true)
	}
}

// Rows I, X: a client that cuts while its session waits, for a request or for room.
func TestCutWhileWaiting(t *testing.T) {
	s := resting(t, with(func(c *api.Config) { c.Out = 3 }), 1, 2)
	ask(t, s, 1, pin(0))
	step(t, s, 3, 4)
	wantStates(t, s, 3, 3, 3, 3, 3)
	do(t, s, cut(1), cut(2))
	wantNext(t, s, 3)
	wantNext(t, s, 4)
	wantLeave(t, s, 4, 2)
	wantState(t, s, 2, api.TWaiting)
	wantLeave(t, s, 3, 1)
	wantState(t, s, 2, api.TReady)
	settle(t, s)
	wantBook(t, s, 2, 0, 0)
}

// Row U: all that the session held is let go, also the inner epoch of a scan that was not answered.
func TestLetsGo(t *testing.T) {
	s := fed(t, small(), "a", 1, 2)
	ask(t, s, 1, pin(0), pin(0))
	ask(t, s, 2, pin(0), join(0, 1))
	settle(t, s)
	wantBook(t, s, 4, 3, 3)
	do(t, s, cut(1))
	step(t, s, 3, 2)
	wantBook(t, s, 4, 3, 3)
	step(t, s, 3, 1)
	wantBook(t, s, 4, 2, 3)
	wantStates(t, s, 3, 3, 1, 4, 3)
	settle(t, s)
	wantBook(t, s, 4, 2, 2)
	wantUnits(t, s, 1, 2)
	do(t, s, feed(0, "a", 5, 1), cut(2))
	settle(t, s)
	wantBook(t, s, 4, 0, 0)
	wantUnits(t, s, 1, 2)
}

// Row V: a session waits for the book, to leave.
func TestLeaveWaits(t *testing.T) {
	s := resting(t, small(), 1, 2)
	ask(t, s, 1, pin(0))
	step(t, s, 3, 2)
	do(t, s, cut(2))
	step(t, s, 4, 2)
	wantStates(t, s, 3, 3, 3, 1, 2)
	step(t, s, 3, 1)
	wantStates(t, s, 3, 3, 3, 1, 1)
	ask(t, s, 1, pin(0))
	step(t, s, 3, 3)
	wantState(t, s, 3, api.TLocked)
	wantNext(t, s, 4, lineLeave(2))
	wantStates(t, s, 3, 3, 3, 1, 4)
}

// Rows I, T, V, U: the first frame that is none is told, and ends the session; what stands ahead of it is answered, what stands behind it is not looked at (T4).
func TestBadFrames(t *testing.T) {
	for _, x := range []struct {
		frame []byte
		want  api.Errno
	}{
		{[]byte{0, 0, 0, 0}, api.ErrFrame},
		{[]byte{0, 0, 0, 65}, api.ErrFrame},
		{[]byte{255, 255, 255, 255}, api.ErrFrame},
		{[]byte{0, 0, 0, 2, 9, 0}, api.ErrKind},
		{[]byte{0, 0, 0, 1, 4}, api.ErrCut},
		{[]byte{0, 0, 0, 3, 4, 7, 0}, api.ErrTail},
		{[]byte{0, 0, 0, 3, 5, 1, 0}, api.ErrField},
		{[]byte{0, 0, 0, 3, 4, 128, 0}, api.ErrForm},
	} {
		s := resting(t, small(), 1, 2)
		b := append(framed(t, pin(1), stats(2)), x.frame...)
		b = append(b, framed(t, pin(3))...)
		do(t, s, send(1, b), bring(1, 99))
		step(t, s, 3, 8) // both requests
		wantBook(t, s, 2, 1, 1)
		wantNext(t, s, 3, lineBad(1, x.want)) // I
		wantNext(t, s, 3)                     // T
		wantLeave(t, s, 3, 1)
		wantBook(t, s, 2, 0, 1)
		settle(t, s)
		wantResponses(t, s, 1, sealed(1, 1), counts(2, api.Stats{Now: 2}), bad(0, x.want))
		wantEnd(t, s, 1, true)
		wantErrno(t, s, send(1, []byte{1}), api.ErrGone)
		wantBook(t, s, 2, 0, 0)
		ask(t, s, 2, stats(4))
		wantHeard(t, s, 2, counts(4, api.Stats{Now: 2}))
	}
}

// P1803, P1804: of a session that has left the last frame is heard still, and that is not nothing to do.
func TestLastFrameIsFetched(t *testing.T) {
	s := resting(t, small(), 1)
	do(t, s, send(1, make([]byte, 4)), bring(1, 4))
	step(t, s, 3, 4)
	wantState(t, s, 3, api.TEnded)
	wantEnd(t, s, 1, false)
	wantIdle(t, s, false)
	last := answered(t, bad(0, api.ErrFrame))
	do(t, s, fetch(1, len(last)-1))
	wantEnd(t, s, 1, false)
	do(t, s, fetch(1, 1))
	wantEnd(t, s, 1, true)
	wantIdle(t, s, true)
	b, _ := s.Heard(1)
	wantBytes(t, b, last)
}

// Row T: where there is little room, the last frame goes by pieces; a client that cuts meanwhile hears no more.
func TestLastFrameByPieces(t *testing.T) {
	for _, byCut := range []bool{false, true} {
		s := resting(t, with(func(c *api.Config) { c.Out = 3 }), 1)
		do(t, s, send(1, make([]byte, 4)), bring(1, 4))
		wantNext(t, s, 3, lineBad(1, api.ErrFrame))
		wantNext(t, s, 3)
		wantState(t, s, 3, api.TWaiting)
		if byCut {
			do(t, s, cut(1))
			wantNext(t, s, 3)
		} else {
			for range 2 {
				do(t, s, fetch(1, 9))
				wantNext(t, s, 3)
			}
		}
		wantLeave(t, s, 3, 1)
		wantEnd(t, s, 1, byCut)
		settle(t, s)
		wantEnd(t, s, 1, true)
	}
}

// Row I: a server that is stopping tells so to each session, behind the request that it does.
func TestStopping(t *testing.T) {
	q := get(1, 0, cell("a", 0))
	for at := range 5 {
		s := fed(t, small(), "a", 1)
		ask(t, s, 1, q, stats(2))
		step(t, s, 3, at)
		do(t, s, stop())
		if at > 0 {
			step(t, s, 3, 4-at)
		}
		wantNext(t, s, 3, lineBad(1, api.ErrDown))
		wantNext(t, s, 3)
		wantLeave(t, s, 3, 1)
		settle(t, s)
		want := []api.Response{rows(1, row("a", 0, 1)), bad(0, api.ErrDown)}
		if at == 0 {
			want = want[1:]
		}
		wantResponses(t, s, 1, want...)
		wantEnd(t, s, 1, true)
	}
}

// Row I: who has cut leaves without a word, also when the server is stopping, and when what it sent was no request.
func TestCutIsFirst(t *testing.T) {
	s := resting(t, small(), 1, 2, 3)
	do(t, s, send(3, make([]byte, 9)), bring(3, 9), cut(1), stop(), cut(2), cut(3))
	for task := 3; task <= 5; task++ {
		wantNext(t, s, task)
		wantLeave(t, s, task, task-2)
	}
}

// Row I: stopping is ahead of what came in.
func TestStoppingIsAheadOfBytes(t *testing.T) {
	s := resting(t, small(), 1)
	do(t, s, send(1, make([]byte, 9)), bring(1, 9), stop())
	wantNext(t, s, 3, lineBad(1, api.ErrDown))
}

// T4: bytes of any kind, in any pieces: what is heard hangs on the bytes alone.
func TestPieces(t *testing.T) {
	q := []api.Request{pin(1), get(2, 1, cell("a", 0)), scan(3, 0, 9), join(4, 1), stats(5), multi(6, 0, cell("a", 0), cell("b", 0))}
	want := []api.Response{sealed(1, 1), rows(2, row("a", 0, 1)), rows(3, row("a", 0, 1), row("b", 0, 2)), done(4), counts(5, api.Stats{Taken: 2, Cells: 2, Now: 3}), rows(6, row("a", 0, 1), row("b", 0, 2))}
	whole := framed(t, q...)
	for _, tail := range [][]byte{nil, {0}, {0, 0, 0, 9, 1, 2}, {0, 0, 0, 0, 7}, {0, 0, 0, 1, 99, 1, 1}} {
		b := append(bytes.Clone(whole), tail...)
		var first string
		for size := 1; size <= len(b); size++ {
			s := fed(t, with(func(c *api.Config) { c.Slots, c.In, c.Out = 20, 1+size%7, 1+size%5 }), "ab", 1)
			for piece := range slices.Chunk(b, size) {
				// Behind a frame that is none the connection may be closed.
				s.Do(send(1, piece))
				if size%3 > 0 {
					settle(t, s)
				}
			}
			settle(t, s)
			got := responses(t, s, 1)
			if len(got) < len(want) {
				t.Fatalf("pieces of %d: %+v", size, got)
			}
			wantAnswers(t, got[:len(want)], want...)
			now := heardAndHeld(s)
			if first == "" {
				first = now
			}
			if now != first {
				t.Fatalf("pieces of %d: %s; want %s", size, now, first)
			}
		}
	}
}

// heardAndHeld is what the client of connection 1 heard, and what is there then.
func heardAndHeld(s *serve.Server) string {
	b, end := s.Heard(1)
	now, held, live := s.Book()
	return string(b) + lineTexts([]api.Line{{Who: now, No: held, From: live}}) + map[bool]string{true: "end"}[end]
}
