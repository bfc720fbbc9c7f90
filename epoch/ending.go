package epoch

import (
	"slices"

	"spate/api"
)

// ending is the epochs that are dying. A sweep's own are set apart when it begins, as more may be dying when it ends.
type ending struct {
	dying set
	swept set // empty, if none has begun
	begun bool
}

func (e *ending) count() int {
	return len(e.dying) + len(e.swept)
}

func (e *ending) twin() ending {
	return ending{dying: e.dying.twin(), swept: e.swept.twin(), begun: e.begun}
}

func (b *Book) Dying() []int {
	b.Lock()
	defer b.Unlock()
	all := append(b.dying.list(), b.swept.list()...)
	slices.Sort(all)
	return all
}

// Begin begins a sweep, End ends it: how many epochs are no more.
func (b *Book) Begin() api.Errno {
	b.Lock()
	defer b.Unlock()
	if b.begun {
		return api.ErrTwice
	}
	b.begun = true
	b.swept, b.dying = b.dying, set{}
	return api.OK
}

func (b *Book) End() (int, api.Errno) {
	b.Lock()
	defer b.Unlock()
	if !b.begun {
		return 0, api.ErrGone
	}
	gone := len(b.swept)
	b.begun = false
	b.swept = nil
	return gone, api.OK
}
