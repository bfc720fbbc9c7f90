package flow

// ring has things in their order, most of them at most, in a row that is gone round.
type ring[T any] struct {
	row                []T
	start, count, most int
}

// add answers false, if there is no room.
func (r *ring[T]) add(x T) bool {
	if r.count == r.most {
		return false
	}
	if r.count == len(r.row) {
		r.move()
	}
	r.row[(r.start+r.count)%len(r.row)] = x
	r.count++
	return true
}

// first answers false, if there is nothing.
func (r *ring[T]) first() (T, bool) {
	if r.count == 0 {
		var none T
		return none, false
	}
	return r.row[r.start], true
}

func (r *ring[T]) take() (T, bool) {
	var none T
	x, there := r.first()
	if !there {
		return none, false
	}
	// What is taken is kept no longer.
	r.row[r.start] = none
	r.start = (r.start + 1) % len(r.row)
	r.count--
	return x, true
}

// move goes over to a longer row: few rings ever have as many as they may.
func (r *ring[T]) move() {
	row := make([]T, min(max(2*len(r.row), 4), r.most))
	n := copy(row, r.row[r.start:])
	copy(row[n:], r.row[:r.start])
	r.row, r.start = row, 0
}
