package epoch

import (
	"slices"

	"spate/api"
)

// none is the inner epoch of an owner that has none: epochs begin with 1.
const none = 0

// hand is what an owner has.
type hand struct {
	pinned set
	inner  int
}

// list tells all that it has, in no order.
func (h hand) list() []int {
	all := h.pinned.list()
	if h.inner != none {
		all = append(all, h.inner)
	}
	return all
}

func (h hand) twin() hand {
	return hand{pinned: h.pinned.twin(), inner: h.inner}
}

func mayOwn(owner int) bool {
	return owner >= 1 && owner <= api.MaxConns
}

// Join lets an owner hold an epoch too; Release lets it go; Done lets an inner one go; Drop all that an owner has: how many.
func (b *Book) Join(owner, epoch int) api.Errno {
	if !mayOwn(owner) {
		return api.ErrArg
	}
	b.Lock()
	defer b.Unlock()
	of := &b.hands[owner]
	switch {
	case !b.pinnedBySome(epoch):
		return api.ErrEpoch
	case of.pinned.has(epoch):
		return api.OK
	case len(of.pinned) >= b.pins:
		return api.ErrPins
	}
	of.pinned.add(epoch)
	return api.OK
}

func (b *Book) Release(owner, epoch int) api.Errno {
	if !mayOwn(owner) {
		return api.ErrArg
	}
	b.Lock()
	defer b.Unlock()
	of := &b.hands[owner]
	if !of.pinned.has(epoch) {
		return api.ErrEpoch
	}
	delete(of.pinned, epoch)
	b.letGo(epoch)
	return api.OK
}

func (b *Book) Done(owner int) api.Errno {
	if !mayOwn(owner) {
		return api.ErrArg
	}
	b.Lock()
	defer b.Unlock()
	of := &b.hands[owner]
	if of.inner == none {
		return api.ErrGone
	}
	b.letGo(of.inner)
	of.inner = none
	return api.OK
}

func (b *Book) Drop(owner int) int {
	if !mayOwn(owner) {
		return 0
	}
	b.Lock()
	defer b.Unlock()
	of := &b.hands[owner]
	all := of.list()
	clear(of.pinned)
	of.inner = none
	for _, epoch := range all {
		b.letGo(epoch)
	}
	return len(all)
}

// letGo is told of each epoch that an owner has no more. An inner one is in no set, and nobody else's, so that only the sets need to be asked.
func (b *Book) letGo(epoch int) {
	if !b.pinnedBySome(epoch) {
		b.dying.add(epoch)
	}
}

func (b *Book) pinnedBySome(epoch int) bool {
	for _, of := range b.hands {
		if of.pinned.has(epoch) {
			return true
		}
	}
	return false
}

// Holds tells whether an owner holds an epoch.
func (b *Book) Holds(owner, epoch int) bool {
	if !mayOwn(owner) {
		return false
	}
	b.Lock()
	defer b.Unlock()
	return b.hands[owner].pinned.has(epoch)
}

// Held tells the epochs that are held, Dying those that are dying, both rising; Live how many there are.
func (b *Book) Held() []int {
	b.Lock()
	defer b.Unlock()
	return b.held()
}

func (b *Book) held() []int {
	var all []int
	for _, of := range b.hands {
		all = append(all, of.list()...)
	}
	slices.Sort(all)
	return slices.Compact(all)
}

func (b *Book) Live() int {
	b.Lock()
	defer b.Unlock()
	return len(b.held()) + b.ending.count()
}
