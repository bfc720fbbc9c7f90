package table

// Move brings so many places of the elder table over: how many are left.
func (t *Table[V]) Move(places int) int {
	for range min(places, t.Left()) {
		t.moveOne()
	}
	if t.Left() == 0 {
		t.elder, t.moved = nil, 0
	}
	return t.Left()
}

func (t *Table[V]) moveOne() {
	if t.elder[t.moved].state == taken {
		t.row.lay(t.elder.give(t.moved))
	}
	t.moved++
}

// grow makes the row the elder one, and takes an empty one of twice as many places. An elder row still left is moved whole first: there is room for one only.
func (t *Table[V]) grow() {
	t.Move(t.Left())
	t.elder = t.row
	t.row = make(row[V], 2*len(t.elder))
}
