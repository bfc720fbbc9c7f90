package model

import (
	"testing"

	"spate/api"
)

// lateModel is so old as no test can make it by sealing: MaxEpoch is 1 << 40.
func lateModel(t *testing.T, now int) *Model {
	t.Helper()
	m, errno := New(api.Config{
		Views:   []api.View{{Size: 10, Slide: 10}},
		Sources: 1, Operators: 1, Shards: 1,
		Slots: 9, Box: 1, Admit: 1, Pins: 2, Chunk: 1, Frame: 100, In: 100, Out: 100,
	})
	if errno != api.OK {
		t.Fatal(errno)
	}
	m.now = now
	return m
}

func (m *Model) wantKind(t *testing.T, q api.Request, kind int, errno api.Errno) {
	t.Helper()
	if r, e := m.Ask(1, q, api.OK); e != api.OK || r.Kind != kind || r.Err != errno || len(r.Rows) != 0 {
		t.Errorf("Ask(%+v): %+v, %v; want kind %d, %v", q, r, e, kind, errno)
	}
}

// P1905, W6: the last epoch is now, but never sealed.
func TestLastEpoch(t *testing.T) {
	const last = 1 << 40
	pin, scan := api.Request{Kind: api.RPin}, api.Request{Kind: api.RScan, To: api.Cell{View: 4}, Limit: 1}
	m := lateModel(t, last-1)
	m.wantKind(t, pin, api.SEpoch, api.OK)
	for range 2 {
		m.wantKind(t, pin, api.SError, api.ErrMany)
		m.wantKind(t, scan, api.SError, api.ErrMany)
		if m.Stats().Now != last || m.Leave(2) != 0 {
			t.Errorf("now %d", m.Stats().Now)
		}
	}
	scan.Epoch = last - 1
	m.wantKind(t, scan, api.SRows, api.OK)
	if m.Leave(1) != 1 {
		t.Error("a pin that was refused is held")
	}
	m = lateModel(t, last-1)
	scan.Epoch = 0
	m.wantKind(t, scan, api.SRows, api.OK)
	m.wantKind(t, scan, api.SError, api.ErrMany)
}

// P6: that a session holds Pins is told ahead of that there are no more epochs.
func TestPinsAheadOfMany(t *testing.T) {
	const last = 1 << 40
	m := lateModel(t, last-2)
	pin := api.Request{Kind: api.RPin}
	m.wantKind(t, pin, api.SEpoch, api.OK)
	m.wantKind(t, pin, api.SEpoch, api.OK)
	m.wantKind(t, pin, api.SError, api.ErrPins)
}
