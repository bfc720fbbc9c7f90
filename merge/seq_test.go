package merge_test

import (
	"fmt"
	"maps"
	"math"
	"math/rand/v2"
	"runtime"
	"slices"
	"testing"
	"time"

	"spate/chain"
	"spate/merge"
	"spate/table"
)

// P806: by key; of like keys that of a alone.
func TestSeqExamples(t *testing.T) {
	for _, x := range []struct{ a, b, want []two }{
		{nil, nil, nil},
		{[]two{{1, "a"}}, nil, []two{{1, "a"}}},
		{nil, []two{{1, "b"}, {2, "b"}}, []two{{1, "b"}, {2, "b"}}},
		{[]two{{1, "a"}}, []two{{1, "b"}}, []two{{1, "a"}}},
		{[]two{{1, "a"}, {3, "a"}}, []two{{2, "b"}, {4, "b"}}, []two{{1, "a"}, {2, "b"}, {3, "a"}, {4, "b"}}},
		{[]two{{2, "a"}, {4, "a"}}, []two{{1, "b"}, {2, "b"}, {3, "b"}, {4, "b"}}, []two{{1, "b"}, {2, "a"}, {3, "b"}, {4, "a"}}},
		{[]two{{5, "a"}}, []two{{1, "b"}, {2, "b"}, {5, "b"}, {6, "b"}}, []two{{1, "b"}, {2, "b"}, {5, "a"}, {6, "b"}}},
		{[]two{{-9, "a"}, {0, "a"}, {9, "a"}}, []two{{0, "b"}}, []two{{-9, "a"}, {0, "a"}, {9, "a"}}},
		{[]two{{math.MinInt, "a"}, {math.MaxInt, "a"}}, []two{{math.MinInt, "b"}, {0, "b"}, {math.MaxInt, "b"}}, []two{{math.MinInt, "a"}, {0, "b"}, {math.MaxInt, "a"}}},
	} {
		a, b := &watched{pairs: x.a}, &watched{pairs: x.b}
		if got := collect(merge.Seq(a.seq(), b.seq()), 99); !slices.Equal(got, x.want) {
			t.Errorf("%v and %v: %v; want %v", x.a, x.b, got, x.want)
		}
	}
}

// P806: of any sequences that rise, whole and left early, each is begun once, and at no time gone over further than one pair beyond what was told; behind the loop both are ended.
func TestSeqAny(t *testing.T) {
	r := rand.New(rand.NewPCG(7, 7))
	early, like := 0, 0
	for range 5000 {
		a := &watched{pairs: anyPairs(r, "a", 12, 1+r.IntN(4))}
		b := &watched{pairs: anyPairs(r, "b", 12, 1+r.IntN(4))}
		want := plainSeq(a.pairs, b.pairs)
		most := r.IntN(len(want) + 3)
		seq := merge.Seq(a.seq(), b.seq())
		if a.begun+b.begun != 0 {
			t.Fatalf("begun ahead of the loop")
		}
		wantSteps(t, seq, want, most, a, b)
		if most <= len(want) {
			early++
		}
		like += len(a.pairs) + len(b.pairs) - len(want)
	}
	if early < 1000 || like < 5000 {
		t.Errorf("%d left early, %d like keys: this tests too little", early, like)
	}
}

// wantSteps goes over a sequence of two, so many pairs at most, and looks after how those two are gone over.
func wantSteps(t *testing.T, seq func(func(int, string) bool), want []two, most int, a, b *watched) {
	t.Helper()
	if most < 1 {
		return
	}
	told := 0
	for key, value := range seq {
		if told >= len(want) || want[told] != (two{key, value}) {
			t.Fatalf("pair %d is %d, %s; want %v", told, key, value, want)
		}
		told++
		for _, w := range []*watched{a, b} {
			if most := w.below(key) + 1; w.given > most {
				t.Fatalf("at %d: %d pairs are gone over; want %d at most of %v", key, w.given, most, w.pairs)
			}
			if w.begun > 1 || w.ended > w.begun || w.left > 0 {
				t.Fatalf("at %d: begun %d times, ended %d times, left %d times", key, w.begun, w.ended, w.left)
			}
		}
		if told == most {
			break
		}
	}
	if told != min(most, len(want)) {
		t.Fatalf("%d pairs; want %d", told, min(most, len(want)))
	}
	for _, w := range []*watched{a, b} {
		if w.begun > 1 || w.ended != w.begun {
			t.Fatalf("behind the loop: begun %d times, ended %d times", w.begun, w.ended)
		}
		if told < most && (w.begun != 1 || w.given != len(w.pairs) || w.left > 0) {
			t.Fatalf("behind all: begun %d times, %d pairs of %d, left %d times", w.begun, w.given, len(w.pairs), w.left)
		}
	}
}

// P806: sequences without an end can be gone over as far as one likes.
func TestSeqWithoutEnd(t *testing.T) {
	for most := range 40 {
		for _, pairs := range [][]two{nil, {{-3, "a"}}, {{1, "a"}, {9, "a"}}, {{7, "a"}}, {{100, "a"}}} {
			for _, moreOfA := range []bool{false, true} {
				a, b := &watched{pairs: pairs, more: moreOfA}, &watched{pairs: []two{{2, "b"}, {7, "b"}, {9, "b"}}, more: true}
				want := plainSeq(front(a, 50), front(b, 50))
				wantLeft(t, a, b, want, most)
				a, b = &watched{pairs: pairs, more: moreOfA}, &watched{pairs: b.pairs, more: true}
				want = plainSeq(front(b, 50), front(a, 50))
				wantLeft(t, b, a, want, most)
			}
		}
	}
}

// front is the first so many pairs of it, or all.
func front(w *watched, most int) []two {
	var l []two
	for i := 0; i < most && (w.more || i < len(w.pairs)); i++ {
		l = append(l, w.pairAt(i))
	}
	return l
}

func wantLeft(t *testing.T, a, b *watched, want []two, most int) {
	t.Helper()
	wantSteps(t, merge.Seq(a.seq(), b.seq()), want, most, a, b)
	for _, w := range []*watched{a, b} {
		if w.more && w.left != w.begun {
			t.Errorf("left %d times, begun %d times", w.left, w.begun)
		}
	}
}

// P806: however the loop is left, both are left by then.
func TestSeqLeft(t *testing.T) {
	for name, leave := range map[string]func(seq func(func(int, string) bool)){
		"break": func(seq func(func(int, string) bool)) {
			for range seq {
				break
			}
		},
		"return": func(seq func(func(int, string) bool)) {
			for range seq {
				return
			}
		},
		"continue": func(seq func(func(int, string) bool)) {
		outer:
			for range 2 {
				for range seq {
					continue outer
				}
			}
		},
		"panic": func(seq func(func(int, string) bool)) {
			defer func() { _ = recover() }()
			for range seq {
				panic(1)
			}
		},
		"exit": func(seq func(func(int, string) bool)) {
			done := make(chan bool)
			go func() {
				defer close(done)
				for range seq {
					runtime.Goexit()
				}
			}()
			<-done
		},
	} {
		for _, keys := range [][2]int{{1, 2}, {2, 1}, {1, 1}} {
			a, b := &watched{pairs: []two{{keys[0], "a"}}, more: true}, &watched{pairs: []two{{keys[1], "b"}}, more: true}
			leave(merge.Seq(a.seq(), b.seq()))
			if a.begun < 1 || a.ended != a.begun || b.begun < 1 || b.ended != b.begun {
				t.Errorf("%s: %d of %d, %d of %d are ended", name, a.ended, a.begun, b.ended, b.begun)
			}
		}
	}
}

// P806: a panic in a sequence comes to the one who ranges, as if that had ranged over it alone, and the other one is left.
func TestSeqPanics(t *testing.T) {
	goesOn := func(yield func(int, string) bool) {
		if yield(2, "bad") {
			panic("bad")
		}
	}
	isLeft := func(yield func(int, string) bool) {
		if !yield(2, "bad") {
			panic("bad")
		}
	}
	for most := 1; most < 9; most++ {
		wantPanic(t, goesOn, most, most > 2)
		wantPanic(t, isLeft, most, most <= 2)
	}
}

// wantPanic merges a sequence that panics, first and second, with one that has no end.
func wantPanic(t *testing.T, bad func(func(int, string) bool), most int, panics bool) {
	t.Helper()
	for _, first := range []bool{true, false} {
		w := &watched{more: true}
		seq := merge.Seq(w.seq(), bad)
		if first {
			seq = merge.Seq(bad, w.seq())
		}
		fault := faultOf(func() { collect(seq, most) })
		if panics && fault != "bad" || !panics && fault != nil {
			t.Errorf("%v within %d pairs; want a panic: %v", fault, most, panics)
		}
		if w.begun != 1 || w.ended != 1 {
			t.Errorf("begun %d times, ended %d times", w.begun, w.ended)
		}
	}
}

// P806: one that panics ahead of its first pair, too; the second one is not begun, if the first does so.
func TestSeqPanicsAtOnce(t *testing.T) {
	bad := func(func(int, string) bool) { panic("bad") }
	a, b := &watched{more: true}, &watched{more: true}
	for _, seq := range []func(func(int, string) bool){merge.Seq(bad, b.seq()), merge.Seq(a.seq(), bad)} {
		if fault := faultOf(func() { collect(seq, 5) }); fault != "bad" {
			t.Errorf("%v; want the panic", fault)
		}
	}
	if b.begun != 0 || a.ended != a.begun {
		t.Errorf("b begun %d times; a begun %d times, ended %d times", b.begun, a.begun, a.ended)
	}
}

func faultOf(do func()) (fault any) {
	defer func() { fault = recover() }()
	do()
	return nil
}

// P806: behind the loops nothing of them runs any more.
func TestSeqLeavesNothing(t *testing.T) {
	before := runtime.NumGoroutine()
	for most := range 500 {
		a, b := &watched{more: true}, &watched{pairs: []two{{1, "b"}, {20, "b"}}, more: most%2 == 0}
		collect(merge.Seq(a.seq(), b.seq()), 1+most%30)
	}
	after := runtime.NumGoroutine()
	for range 200 {
		if after <= before {
			break
		}
		time.Sleep(10 * time.Millisecond)
		after = runtime.NumGoroutine()
	}
	if after > before {
		t.Errorf("%d goroutines; before: %d", after, before)
	}
}

// P806: keys of other kinds, values of any.
func TestSeqKinds(t *testing.T) {
	x, y := table.New[[]int](), table.New[[]int]()
	for i, key := range []string{"", "a", "a\x00", "b", "\xff"} {
		x.Put(key, []int{i})
	}
	for i, key := range []string{"\x00", "a", "ab", "b", "c"} {
		y.Put(key, []int{-i})
	}
	got := ""
	for key, value := range merge.Seq(x.All(), y.All()) {
		got += fmt.Sprintf("%q%v ", key, value)
	}
	const want = `""[0] "\x00"[0] "a"[1] "a\x00"[2] "ab"[-2] "b"[3] "c"[-4] "\xff"[4] `
	if got != want {
		t.Errorf("%s; want %s", got, want)
	}
	floats := merge.Seq(slicePairs(-0.5, 0, 2), slicePairs(math.Inf(-1), -0.25, 0, math.Inf(1)))
	got = ""
	for key, at := range floats {
		got += fmt.Sprint(key, at, " ")
	}
	if want := "-Inf 0 -0.5 0 -0.25 1 0 1 2 2 +Inf 3 "; got != want {
		t.Errorf("%s; want %s", got, want)
	}
}

func slicePairs(keys ...float64) func(func(float64, int) bool) {
	return func(yield func(float64, int) bool) {
		for i, k := range keys {
			if !yield(k, i) {
				return
			}
		}
	}
}

// P806: sequences of sequences: of like keys the first one's.
func TestSeqOfSeqs(t *testing.T) {
	r := rand.New(rand.NewPCG(8, 8))
	for range 300 {
		all := &watched{}
		seq := all.seq()
		var want []two
		for i := range 1 + r.IntN(8) {
			w := &watched{pairs: anyPairs(r, fmt.Sprint(i, "."), 10, 3)}
			if r.IntN(2) == 0 {
				seq, want = merge.Seq(seq, w.seq()), plainSeq(want, w.pairs)
			} else {
				seq, want = merge.Seq(w.seq(), seq), plainSeq(w.pairs, want)
			}
		}
		for _, most := range []int{999, 1 + r.IntN(len(want)+1)} {
			if got := collect(seq, most); !slices.Equal(got, want[:min(most, len(want))]) {
				t.Errorf("%v; want %v", got, want)
			}
		}
	}
}

// P806: long ones.
func TestSeqLong(t *testing.T) {
	const n = 50000
	var a, b []two
	for i := range n {
		a, b = append(a, two{2 * i, "a"}), append(b, two{3 * i, "b"})
	}
	x, y := &watched{pairs: a}, &watched{pairs: b}
	if got := collect(merge.Seq(x.seq(), y.seq()), 3*n); !slices.Equal(got, plainSeq(a, b)) {
		t.Errorf("%d pairs are other ones", len(got))
	}
	if x.given != n || y.given != n {
		t.Errorf("%d, %d pairs are gone over; want %d of each", x.given, y.given, n)
	}
}

// P5: a sequence may be ranged over again, also within itself, and objects changed meanwhile.
func TestSeqAgain(t *testing.T) {
	x, y := chain.New[int](), chain.New[int]()
	for i := 1; i < 6; i++ {
		x.Put(2*i, i)
		y.Put(3*i, i)
	}
	seq := merge.Seq(x.All(), y.All())
	want := []int{2, 3, 4, 6, 8, 9, 10, 12, 15}
	rounds := 0
	for key := range seq {
		for inner := range seq {
			if inner > key {
				break
			}
		}
		x.Kill(20 + key)
		y.Put(20+key, 1)
		if got := slices.Sorted(maps.Keys(maps.Collect(seq))); !slices.Equal(got, want) {
			t.Errorf("%v; want %v", got, want)
		}
		if key != want[rounds] {
			t.Errorf("%d; want %d", key, want[rounds])
		}
		rounds++
	}
	if rounds != len(want) {
		t.Errorf("%d pairs; want %d", rounds, len(want))
	}
}

// P5, P7: two rounds over one sequence, or over two of the same, do not meddle.
func TestSeqRoundsApart(t *testing.T) {
	r := rand.New(rand.NewPCG(9, 9))
	for range 200 {
		a, b := &watched{pairs: anyPairs(r, "a", 8, 3)}, &watched{pairs: anyPairs(r, "b", 8, 3)}
		one, other := merge.Seq(a.seq(), b.seq()), merge.Seq(a.seq(), b.seq())
		want := plainSeq(a.pairs, b.pairs)
		var got []two
		for key, value := range one {
			got = append(got, two{key, value})
			for _, seq := range []func(func(int, string) bool){one, other} {
				most := 1 + r.IntN(len(want)+1)
				if inner := collect(seq, most); !slices.Equal(inner, want[:min(most, len(want))]) {
					t.Fatalf("within: %v; want %v", inner, want)
				}
			}
		}
		if !slices.Equal(got, want) {
			t.Fatalf("%v; want %v", got, want)
		}
	}
}

// P1, P8: sequences that do not rise are gone over to an end.
func TestSeqNotRising(t *testing.T) {
	r := rand.New(rand.NewPCG(10, 10))
	for range 2000 {
		a, b := &watched{}, &watched{}
		for _, w := range []*watched{a, b} {
			for range r.IntN(10) {
				w.pairs = append(w.pairs, two{r.IntN(5), "x"})
			}
		}
		n := len(a.pairs) + len(b.pairs)
		if got := collect(merge.Seq(a.seq(), b.seq()), n+1); len(got) > n {
			t.Fatalf("more than %d pairs", n)
		}
		if a.ended != a.begun || b.ended != b.begun {
			t.Fatalf("not all are ended")
		}
	}
	nan := math.NaN()
	n := 0
	for range merge.Seq(slicePairs(nan, 1, nan, 2), slicePairs(0, nan, nan, 3)) {
		n++
		if n > 8 {
			t.Fatalf("more than 8 pairs")
		}
	}
}
