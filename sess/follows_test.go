package sess_test

import (
	"bytes"
	"errors"
	"math/rand/v2"
	"slices"
	"testing"

	"spate/api"
	"spate/codec"
	"spate/sess"
	"spate/wire"
)

func wantSame(t *testing.T, row []byte, got, want []told) {
	t.Helper()
	if !slices.EqualFunc(got, want, told.same) {
		t.Fatalf("%v:\n%+v; want\n%+v", row, got, want)
	}
}

// inPieces feeds pieces, and asks Next so often behind each one (below 0: till it has nothing); what it told, with nothings left out, and once more at the end.
func inPieces(t *testing.T, frame int, pieces [][]byte, times func(i int) int) []told {
	t.Helper()
	s := newSess(t, frame)
	var list []told
	ask := func() bool {
		one := next(t, s)
		if one.there {
			list = append(list, one)
		}
		return one.there
	}
	for i, piece := range pieces {
		s.Feed(piece)
		n := times(i)
		for turn := 0; turn != n; turn++ {
			if !ask() && n < 0 {
				break
			}
		}
	}
	for ask() {
	}
	wantAsked(t, s, len(list))
	return append(list, next(t, s))
}

func never(int) int  { return 0 }
func once(int) int   { return 1 }
func always(int) int { return -1 }

// someRows are few bytes: right requests, and behind them each kind of what is none, or half a frame.
func someRows(t *testing.T) [][]byte {
	t.Helper()
	two := append(asked(t, api.Request{Kind: api.RJoin, Id: 5, Epoch: 6}), asked(t, api.Request{Kind: api.RPin, Id: 1})...)
	rows := [][]byte{nil, two, append(bytes.Clone(two), two[:5]...)}
	for _, c := range kindsOfWrong() {
		row := append(bytes.Clone(two), c.row...)
		rows = append(rows, c.row, append(row, two[:6]...))
	}
	return rows
}

// P1706: every way of cutting a row into three pieces, and into single bytes, whenever Next is asked.
func TestEveryCut(t *testing.T) {
	for _, row := range someRows(t) {
		want := (&plain{most: 16, row: row}).all()
		for i := range len(row) + 1 {
			for j := i; j <= len(row); j++ {
				pieces := [][]byte{row[:i], row[i:j], row[j:]}
				for _, times := range []func(int) int{never, once, always} {
					wantSame(t, row, inPieces(t, 16, pieces, times), want)
				}
			}
		}
		pieces := slices.Collect(slices.Chunk(row, 1))
		for _, times := range []func(int) int{never, once, always} {
			wantSame(t, row, inPieces(t, 16, pieces, times), want)
		}
	}
}

// P1702, P1706: any row, in any pieces, whenever Next is asked.
func TestAnyPieces(t *testing.T) {
	r := rand.New(rand.NewPCG(1, 1))
	requests, ends := 0, map[api.Errno]int{}
	for range 4000 {
		frame := []int{16, 17, 40, 1 << 10, 1 << 16}[r.IntN(5)]
		row := anyRow(t, r, frame)
		want := (&plain{most: frame, row: row}).all()
		requests += len(want) - 1
		ends[want[len(want)-1].errno]++
		wantSame(t, row, inPieces(t, frame, [][]byte{row}, never), want)
		for range 4 {
			times := func(int) int { return r.IntN(4) - 1 }
			wantSame(t, row, inPieces(t, frame, cut(r, row, 1+r.IntN(20)), times), want)
		}
	}
	if requests < 8000 || ends[api.OK] < 500 || ends[api.ErrFrame] < 500 || ends[api.ErrKind] < 300 || ends[api.ErrCut] < 100 || ends[api.ErrTail] < 20 {
		t.Errorf("%d requests, %v: this tests too little", requests, ends)
	}
}

// P1702, P1703: call by call, against the likeness, which never forgets a byte.
func TestCallByCall(t *testing.T) {
	r := rand.New(rand.NewPCG(2, 2))
	for range 2000 {
		frame := 16 + r.IntN(60)
		s, p := newSess(t, frame), &plain{most: frame}
		for range 3 {
			for _, piece := range cut(r, anyRow(t, r, frame), 12) {
				s.Feed(piece)
				p.feed(piece)
				for range r.IntN(3) {
					wantNext(t, s, p.next())
					wantAsked(t, s, p.asked)
				}
			}
		}
		if t.Failed() {
			t.FailNow()
		}
	}
}

// P1706 (T4): just the right requests ahead of the first frame that is none, by the requests themselves.
func TestJustTheRightOnes(t *testing.T) {
	r := rand.New(rand.NewPCG(3, 3))
	for range 300 {
		var row []byte
		var want []told
		for range r.IntN(9) {
			q := anyRequest(r)
			row = append(row, asked(t, q)...)
			want = append(want, told{q: q, there: true})
		}
		for _, c := range kindsOfWrong() {
			most := 1 << 16
			if c.errno == api.ErrFrame {
				c.row = headOf(uint32(most + 1 + r.IntN(9)))
			}
			all := slices.Concat(row, c.row, row)
			got := inPieces(t, most, cut(r, all, 30), always)
			wantSame(t, all, got, append(slices.Clone(want), told{errno: c.errno, at: c.at}))
		}
	}
}

// P1706: many frames in one piece, and one long one in many pieces, are told in good time.
func TestManyBytes(t *testing.T) {
	const many = 1 << 17
	pin := api.Request{Kind: api.RPin, Id: 1}
	s := newSess(t, 16)
	s.Feed(bytes.Repeat(asked(t, pin), many))
	for range many {
		wantRequest(t, s, pin)
	}
	wantNothing(t, s)
	wantAsked(t, s, many)

	s = newSess(t, 1<<16)
	row := frameOf(make([]byte, 1<<16)...)
	for i := range row[1:] {
		s.Feed(row[i : i+1])
		wantNothing(t, s)
	}
	s.Feed(row[len(row)-1:])
	wantFault(t, s, api.ErrKind, 0)
}

// anyAnswer lets a session tell a response, or an error, and tells which response that is.
func anyAnswer(t *testing.T, r *rand.Rand, s *sess.Sess) ([]byte, api.Response) {
	t.Helper()
	var err error
	bad := api.Response{Kind: api.SError, Err: api.Errno(1 + r.IntN(255))}
	switch r.IntN(5) {
	case 0:
		err = bad.Err
	case 1:
		err = &wire.Error{Errno: bad.Err, At: r.IntN(9)}
	case 2:
		bad.Err, err = api.ErrArg, errors.New("no number")
	default:
		all := rightResponses()
		a := all[r.IntN(len(all))]
		frame, errno := s.Answer(a)
		if errno != api.OK {
			t.Fatalf("%+v: %v", a, errno)
		}
		return frame, a
	}
	return s.Bad(err), bad
}

// P1707: what was told, put behind one another and cut into any pieces, is taken off as those responses.
func TestAnswersAreTakenOff(t *testing.T) {
	r := rand.New(rand.NewPCG(4, 4))
	for range 400 {
		s := newSess(t, 16)
		var row []byte
		var want []api.Response
		for range r.IntN(12) {
			frame, a := anyAnswer(t, r, s)
			row, want = append(row, frame...), append(want, a)
		}
		frames, _ := wire.NewFrames(api.MaxBody)
		var got []api.Response
		for _, piece := range cut(r, row, 1+r.IntN(1+len(row))) {
			frames.Feed(piece)
			for body, there, errno := frames.Next(); there || errno != api.OK; body, there, errno = frames.Next() {
				a, err := codec.DecodeResponse(body)
				if errno != api.OK || err != nil {
					t.Fatalf("%v: %v, %v", row, errno, err)
				}
				got = append(got, a)
			}
		}
		if !slices.EqualFunc(got, want, codec.SameResponse) || frames.Held() != 0 {
			t.Fatalf("%v:\n%+v; want\n%+v", row, got, want)
		}
	}
}

// P1: a session that New did not make takes no bytes, and its calls end.
func TestSessOfNothing(t *testing.T) {
	s := &sess.Sess{}
	for range 3 {
		wantNothing(t, s)
		wantAsked(t, s, 0)
		s.Feed(asked(t, api.Request{Kind: api.RPin}))
	}
	wantAnswers(t, s)
	if got := text(s.Needs(api.Request{Kind: api.RPin}, nil)); got != "0! 1!" {
		t.Errorf("Needs: %s", got)
	}
}

// P2: bytes that were fed are not changed, their spare room neither, and not kept.
func TestFedBytesAreApart(t *testing.T) {
	for _, q := range rightRequests() {
		row := asked(t, q)
		for at := range len(row) + 1 {
			s := newSess(t, 1<<16)
			for _, piece := range [][]byte{row[:at], row[at:], row} {
				given := append(bytes.Clone(piece), 7, 7, 7, 7)
				kept := bytes.Clone(given)
				s.Feed(given[:len(piece)])
				s.Feed(nil)
				if !bytes.Equal(given, kept) {
					t.Fatalf("%v was changed to %v", kept, given)
				}
				spoil(given)
			}
			wantRequest(t, s, q)
			wantRequest(t, s, q)
			wantNothing(t, s)
		}
	}
}

// P2: requests that were told are new memory, their spare room too.
func TestToldRequestsAreApart(t *testing.T) {
	s := newSess(t, 1<<16)
	q := api.Request{Kind: api.RMulti, Cells: []api.Cell{k, k, k}}
	s.Feed(bytes.Repeat(asked(t, q), 4))
	kept, _, _ := s.Next()
	for range 2 {
		told, _, _ := s.Next()
		all := told.Cells[:cap(told.Cells)]
		for i := range all {
			all[i] = api.Cell{View: 3, Key: "other"}
		}
	}
	wantRequest(t, s, q)
	if !codec.SameRequest(kept, q) {
		t.Errorf("%+v", kept)
	}
}

// P2: answers are new memory, their spare room too; what is handed in is not changed, and not kept.
func TestAnswersAreApart(t *testing.T) {
	s := newSess(t, 16)
	rows := []api.Row{{Cell: k, Agg: api.Agg{Count: 1}}, {Cell: k}, {Cell: api.Cell{Key: "spare"}}}
	kept := slices.Clone(rows)
	a := api.Response{Kind: api.SRows, Rows: rows[:2]}
	want := answered(t, a)
	first, _ := s.Answer(a)
	second, _ := s.Answer(a)
	if !slices.Equal(rows, kept) {
		t.Errorf("%v", rows)
	}
	spoil(first)
	clear(rows)
	wantBytes(t, "Answer", second, want)

	fault := &wire.Error{Errno: api.ErrKind, At: 4}
	one, two := s.Bad(fault), s.Bad(fault)
	spoil(one)
	if *fault != (wire.Error{Errno: api.ErrKind, At: 4}) {
		t.Errorf("%v", *fault)
	}
	fault.Errno = api.ErrCut
	wantBytes(t, "Bad", two, frameOf(5, 0, byte(api.ErrKind)))
}

// P3, P7: two sessions that are called alike tell the same, and have nothing in common with each other or with a third.
func TestTwiceTheSame(t *testing.T) {
	r := rand.New(rand.NewPCG(5, 5))
	for range 300 {
		one, two, other := newSess(t, 40), newSess(t, 40), newSess(t, 40)
		for _, piece := range cut(r, anyRow(t, r, 40), 12) {
			one.Feed(piece)
			other.Feed(anyBytes(r, 5))
			two.Feed(piece)
			for range r.IntN(3) {
				first := next(t, one)
				next(t, other)
				second := next(t, two)
				if !first.same(second) || one.Asked() != two.Asked() {
					t.Fatalf("%+v; %+v: not twice the same", first, second)
				}
			}
			seed := r.Uint64()
			a, _ := anyAnswer(t, rand.New(rand.NewPCG(seed, 1)), one)
			b, _ := anyAnswer(t, rand.New(rand.NewPCG(seed, 1)), two)
			wantBytes(t, "answer", a, b)
		}
	}
}
