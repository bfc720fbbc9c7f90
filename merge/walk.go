package merge

import "iter"

// pair is one of a sequence.
type pair[K, V any] struct {
	key   K
	value V
}

// walk goes over a sequence pair by pair, each when it is asked for. Two sequences call back, each from within itself, so that they cannot take turns in one goroutine: this one has its own, which stands still whenever its walk is not asked; when the walk is left, it is gone.
type walk[K, V any] struct {
	pair[K, V]      // at which it stands
	at         bool // it stands at one
	over       bool
	asks       chan struct{}
	pairs      chan pair[K, V]
	fault      any
}

func newWalk[K, V any](seq iter.Seq2[K, V]) *walk[K, V] {
	w := &walk[K, V]{asks: make(chan struct{}), pairs: make(chan pair[K, V])}
	go w.run(seq)
	return w
}

// run ranges over the sequence in the walk's own goroutine. A panic in there would end the program, whoever ranges: it is kept for them.
func (w *walk[K, V]) run(seq iter.Seq2[K, V]) {
	defer func() {
		w.fault = recover()
		close(w.pairs)
	}()
	if _, asked := <-w.asks; !asked {
		return
	}
	for key, value := range seq {
		w.pairs <- pair[K, V]{key, value}
		if _, asked := <-w.asks; !asked {
			return
		}
	}
}

// stands tells whether there is a pair; if it stands at none, it first goes on to the next.
func (w *walk[K, V]) stands() bool {
	if w.at || w.over {
		return w.at
	}
	w.asks <- struct{}{}
	w.pair, w.at = <-w.pairs
	if !w.at {
		w.end()
	}
	return w.at
}

// tell tells the pair at which it stands, which is then behind it.
func (w *walk[K, V]) tell(yield func(K, V) bool) bool {
	w.at = false
	return yield(w.key, w.value)
}

// leave leaves the sequence, and waits till it is left.
func (w *walk[K, V]) leave() {
	if w.over {
		return
	}
	close(w.asks)
	<-w.pairs
	w.end()
}

func (w *walk[K, V]) end() {
	w.over = true
	if w.fault != nil {
		panic(w.fault)
	}
}
