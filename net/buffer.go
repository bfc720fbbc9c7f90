package net

// buffer has bytes in their order, room of them at most.
type buffer struct {
	row  []byte
	room int
}

// lay lays the first bytes behind those that are there, as many as there is room for: how many.
func (b *buffer) lay(bytes []byte) int {
	n := min(len(bytes), b.free())
	b.row = append(b.row, bytes[:n]...)
	return n
}

func (b *buffer) free() int {
	return b.room - len(b.row)
}

// front answers the first bytes, most of them at most: the buffer's own, which are read on the spot.
func (b *buffer) front(most int) []byte {
	return b.row[:min(len(b.row), max(most, 0))]
}

// drop takes the first n bytes out.
func (b *buffer) drop(n int) {
	b.row = b.row[n:]
	if len(b.row) == 0 {
		b.empty()
	}
}

// empty lets the row go, too: who has it may keep it.
func (b *buffer) empty() {
	b.row = nil
}
