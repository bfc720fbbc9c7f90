package codec_test

import (
	"bytes"
	"errors"
	"math"
	"math/rand/v2"
	"reflect"
	"slices"
	"testing"

	"spate/api"
	"spate/codec"
	"spate/wire"
)

func someRequests(r *rand.Rand, n int) []api.Request {
	list := rightRequests()
	for range n {
		list = append(list, anyRequest(r))
	}
	return list
}

func someResponses(r *rand.Rand, n int) []api.Response {
	list := rightResponses()
	for range n {
		list = append(list, anyResponse(r))
	}
	return list
}

// P206: Decode of what Encode tells is what was handed in.
func TestThereAndBack(t *testing.T) {
	r := rand.New(rand.NewPCG(1, 1))
	for _, q := range someRequests(r, 3000) {
		b := encodeRequest(t, q)
		got, err := codec.DecodeRequest(b)
		if err != nil || !codec.SameRequest(got, q) || !bytes.Equal(b, join(requestThings(q))) {
			t.Fatalf("%+v: %+v, %v", q, got, err)
		}
		q.Cells, got.Cells = append([]api.Cell{}, q.Cells...), append([]api.Cell{}, got.Cells...)
		if !reflect.DeepEqual(got, q) { // not by Same alone
			t.Fatalf("%+v: %+v", q, got)
		}
	}
	for _, a := range someResponses(r, 3000) {
		b := encodeResponse(t, a)
		got, err := codec.DecodeResponse(b)
		if err != nil || !codec.SameResponse(got, a) || !bytes.Equal(b, join(responseThings(a))) {
			t.Fatalf("%+v: %+v, %v", a, got, err)
		}
		a.Rows, got.Rows = append([]api.Row{}, a.Rows...), append([]api.Row{}, got.Rows...)
		if !reflect.DeepEqual(got, a) {
			t.Fatalf("%+v: %+v", a, got)
		}
	}
}

// spoilt changes, puts in or takes out a few bytes.
func spoilt(r *rand.Rand, b []byte) []byte {
	b = bytes.Clone(b)
	for range 1 + r.IntN(3) {
		i := r.IntN(len(b) + 1)
		switch r.IntN(4) {
		case 0:
			b = slices.Insert(b, i, byte(r.IntN(10)))
		case 1:
			if i < len(b) {
				b = slices.Delete(b, i, i+1)
			}
		default:
			if i < len(b) {
				b[i] ^= 1 << r.IntN(8)
			}
		}
	}
	return b
}

// checkTaken: what Decode takes is right, and Encode writes it as it was read; else there is an error alone.
func checkTaken(t *testing.T, body []byte) (taken int) {
	t.Helper()
	kept := bytes.Clone(body)
	if q, err := codec.DecodeRequest(body); err == nil {
		taken++
		if b, e := codec.EncodeRequest(q); e != api.OK || !bytes.Equal(b, body) {
			t.Fatalf("%v is read as %+v, which is written %v, %v", body, q, b, e)
		}
	} else {
		var fault *wire.Error
		if !errors.As(err, &fault) || fault.Errno == api.OK || fault.At < 0 || fault.At > len(body) {
			t.Fatalf("%v: %v", body, err)
		}
		wantRequestFault(t, body, fault.Errno, fault.At)
	}
	if a, err := codec.DecodeResponse(body); err == nil {
		taken++
		if b, e := codec.EncodeResponse(a); e != api.OK || !bytes.Equal(b, body) {
			t.Fatalf("%v is read as %+v, which is written %v, %v", body, a, b, e)
		}
	} else {
		var fault *wire.Error
		if !errors.As(err, &fault) || fault.Errno == api.OK || fault.At < 0 || fault.At > len(body) {
			t.Fatalf("%v: %v", body, err)
		}
		wantResponseFault(t, body, fault.Errno, fault.At)
	}
	if !bytes.Equal(body, kept) {
		t.Fatalf("%v was changed to %v", kept, body)
	}
	return taken
}

// P206, P1: any bytes, right ones with a few changed among them.
func TestAnyBytes(t *testing.T) {
	r := rand.New(rand.NewPCG(2, 2))
	taken := 0
	for range 20000 {
		taken += checkTaken(t, spoilt(r, encodeRequest(t, anyRequest(r))))
		taken += checkTaken(t, spoilt(r, encodeResponse(t, anyResponse(r))))
	}
	for range 200000 {
		b := make([]byte, r.IntN(14))
		for i := range b {
			b[i] = byte(r.IntN(9))
		}
		taken += checkTaken(t, b)
	}
	if taken < 2000 {
		t.Errorf("only %d were taken: this tests too little", taken)
	}
	checkTaken(t, bytes.Repeat([]byte{1}, 1<<20))
}

// frontless asks that of all these bytes none are a front of others; the same ones are told apart by same.
func frontless(t *testing.T, all [][]byte, same func(i, j int) bool) {
	t.Helper()
	order := make([]int, len(all))
	for i := range order {
		order[i] = i
	}
	slices.SortFunc(order, func(i, j int) int { return bytes.Compare(all[i], all[j]) })
	// A front of some stands right ahead of one that it is a front of.
	for n := 1; n < len(order); n++ {
		i, j := order[n-1], order[n]
		if bytes.HasPrefix(all[j], all[i]) && !(len(all[i]) == len(all[j]) && same(i, j)) {
			t.Fatalf("%v is a front of %v", all[i], all[j])
		}
		if same(i, j) && !bytes.Equal(all[i], all[j]) {
			t.Fatalf("the same as %v and as %v", all[i], all[j])
		}
	}
}

// P206: unlike ones have unlike bytes, none a front of another's.
func TestNoFronts(t *testing.T) {
	r := rand.New(rand.NewPCG(3, 3))
	small := func() api.Cell {
		return api.Cell{View: r.IntN(2), Key: []string{"a", "b", "aa", "ab"}[r.IntN(4)], Start: int64(r.IntN(3) - 1)}
	}
	qs := someRequests(r, 2000)
	for range 4000 {
		q := api.Request{Kind: 1 + r.IntN(7), Id: r.IntN(2)}
		switch q.Kind {
		case api.RGet:
			q.Epoch, q.Cells = r.IntN(2), []api.Cell{small()}
		case api.RMulti:
			for range 1 + r.IntN(3) {
				q.Cells = append(q.Cells, small())
			}
		case api.RScan:
			q.From, q.To, q.Limit = small(), small(), 1+r.IntN(2)
		case api.RJoin, api.RRelease:
			q.Epoch = 1 + r.IntN(300)
		}
		qs = append(qs, q)
	}
	var bodies [][]byte
	for _, q := range qs {
		bodies = append(bodies, encodeRequest(t, q))
	}
	frontless(t, bodies, func(i, j int) bool { return codec.SameRequest(qs[i], qs[j]) })

	as := someResponses(r, 2000)
	for range 2000 {
		a := api.Response{Kind: api.SRows, Id: r.IntN(2)}
		for range r.IntN(3) {
			a.Rows = append(a.Rows, api.Row{Cell: small(), Agg: api.Agg{Count: 1, Sum: int64(r.IntN(3))}})
		}
		as = append(as, a)
	}
	bodies = nil
	for _, a := range as {
		bodies = append(bodies, encodeResponse(t, a))
	}
	frontless(t, bodies, func(i, j int) bool { return codec.SameResponse(as[i], as[j]) })
}

// fronts asks for P207 of one's bytes.
func fronts(t *testing.T, b []byte, r *rand.Rand, want func(*testing.T, []byte, api.Errno, int)) {
	t.Helper()
	step := 1 + len(b)/1000
	for n := 0; n < len(b); n += step {
		want(t, b[:n], api.ErrCut, n)
	}
	want(t, b[:len(b)-1], api.ErrCut, len(b)-1)
	for _, n := range []int{1, 2, 7, 100} {
		behind := bytes.Clone(b)
		for range n {
			behind = append(behind, byte(r.Uint32()))
		}
		want(t, behind, api.ErrTail, len(b))
	}
	want(t, append(bytes.Clone(b), b...), api.ErrTail, len(b))
}

// P207
func TestFrontsAndTails(t *testing.T) {
	r := rand.New(rand.NewPCG(4, 4))
	for _, q := range someRequests(r, 300) {
		fronts(t, encodeRequest(t, q), r, wantRequestFault)
	}
	for _, a := range someResponses(r, 300) {
		fronts(t, encodeResponse(t, a), r, wantResponseFault)
	}
}

// P2: what is handed in is not changed, nor its spare room.
func TestHandedInStays(t *testing.T) {
	room := []api.Cell{k, k, {View: 9, Key: "spare"}}
	kept := slices.Clone(room)
	q := api.Request{Kind: api.RMulti, Cells: room[:2]}
	codec.CheckRequest(q)
	encodeRequest(t, q)
	codec.SameRequest(q, q)
	if !slices.Equal(room, kept) {
		t.Errorf("%v", room)
	}
	rows := []api.Row{someRow, leastRow, {Cell: api.Cell{Key: "spare"}}}
	keptRows := slices.Clone(rows)
	a := api.Response{Kind: api.SRows, Rows: rows[:2]}
	codec.CheckResponse(a)
	encodeResponse(t, a)
	codec.SameResponse(a, a)
	if !slices.Equal(rows, keptRows) {
		t.Errorf("%v", rows)
	}
	body := append(encodeRequest(t, q), 77, 78)
	keptBody := bytes.Clone(body)
	if _, err := codec.DecodeRequest(body[:len(body)-2]); err != nil || !bytes.Equal(body, keptBody) {
		t.Errorf("%v: %v", body, err)
	}
	body = append(encodeResponse(t, a), 77, 78)
	keptBody = bytes.Clone(body)
	if _, err := codec.DecodeResponse(body[:len(body)-2]); err != nil || !bytes.Equal(body, keptBody) {
		t.Errorf("%v: %v", body, err)
	}
}

// P2, P7: answers are new memory, their spare room too.
func TestAnswersAreNew(t *testing.T) {
	q := api.Request{Kind: api.RMulti, Cells: []api.Cell{k, k, k}}
	first, second := encodeRequest(t, q), encodeRequest(t, q)
	want := bytes.Clone(first)
	first = first[:cap(first)]
	for i := range first {
		first[i] = 0xEE
	}
	if !bytes.Equal(second, want) || !bytes.Equal(encodeRequest(t, q), want) {
		t.Error("two answers share memory")
	}

	body := bytes.Clone(want)
	one, err1 := codec.DecodeRequest(body)
	two, err2 := codec.DecodeRequest(body)
	if err1 != nil || err2 != nil {
		t.Fatal(err1, err2)
	}
	for i := range body {
		body[i] = 0xEE
	}
	one.Cells = one.Cells[:cap(one.Cells)]
	for i := range one.Cells {
		one.Cells[i] = api.Cell{Key: "other"}
	}
	if !codec.SameRequest(two, q) {
		t.Errorf("%+v", two)
	}

	a := api.Response{Kind: api.SRows, Rows: []api.Row{someRow, leastRow, someRow}}
	body = encodeResponse(t, a)
	three, err1 := codec.DecodeResponse(body)
	four, err2 := codec.DecodeResponse(body)
	if err1 != nil || err2 != nil {
		t.Fatal(err1, err2)
	}
	for i := range body {
		body[i] = 0xEE
	}
	three.Rows = three.Rows[:cap(three.Rows)]
	for i := range three.Rows {
		three.Rows[i] = api.Row{}
	}
	if !codec.SameResponse(four, a) {
		t.Errorf("%+v", four)
	}

	_, err := codec.DecodeRequest(nil)
	var fault *wire.Error
	if !errors.As(err, &fault) {
		t.Fatal(err)
	}
	fault.Errno, fault.At = api.ErrTail, 9
	wantRequestFault(t, nil, api.ErrCut, 0)
	wantResponseFault(t, nil, api.ErrCut, 0)
}

// P1, P3: whatever plain data is handed in, each call ends, and answers the same again; Check, Encode and Decode are of one mind.
func TestWildData(t *testing.T) {
	r := rand.New(rand.NewPCG(5, 5))
	wild := []int{math.MinInt, -1, 0, 1, 2, 3, 4, 5, 16, 17, 255, 256, 257, api.MaxEpoch, overEpoch, math.MaxInt}
	pick := func() int { return wild[r.IntN(len(wild))] }
	rare := func() int {
		if r.IntN(8) == 0 {
			return pick()
		}
		return 0
	}
	keys := []string{"", "k", longKey, overKey, "\xff\x00"}
	cell := func() api.Cell {
		return api.Cell{View: r.IntN(6) - 1, Key: keys[r.IntN(len(keys))], Start: int64(pick())}
	}
	for range 50000 {
		q := api.Request{Kind: r.IntN(10) - 1, Id: pick(), Epoch: rare(), Limit: rare()}
		for range max(0, r.IntN(20)-r.IntN(20)) {
			q.Cells = append(q.Cells, cell())
		}
		if r.IntN(4) == 0 {
			q.From, q.To = cell(), cell()
		}
		e := codec.CheckRequest(q)
		b, e2 := codec.EncodeRequest(q)
		c, e3 := codec.EncodeRequest(q)
		if e != e2 || e != e3 || !bytes.Equal(b, c) || e == api.OK == (len(b) == 0) {
			t.Fatalf("%+v: %v; %v, %v; %v, %v", q, e, b, e2, c, e3)
		}
		a := api.Response{Kind: r.IntN(8) - 1, Id: pick(), Err: api.Errno(rare()), Epoch: rare(), Stats: api.Stats{Full: rare(), Now: rare()}}
		for range max(0, r.IntN(5)-r.IntN(5)) {
			a.Rows = append(a.Rows, api.Row{Cell: cell(), Agg: api.Agg{Count: int64(pick()), Min: int64(pick()), Max: int64(pick())}})
		}
		e = codec.CheckResponse(a)
		b, e2 = codec.EncodeResponse(a)
		c, e3 = codec.EncodeResponse(a)
		if e != e2 || e != e3 || !bytes.Equal(b, c) || e == api.OK == (len(b) == 0) {
			t.Fatalf("%+v: %v; %v, %v; %v, %v", a, e, b, e2, c, e3)
		}
	}
}
