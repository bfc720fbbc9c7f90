package model

import (
	"maps"

	"spate/api"
)

// seal ends the epoch that is now.
func (m *Model) seal() api.Errno {
	if m.now >= api.MaxEpoch {
		return api.ErrMany
	}
	m.now++
	return api.OK
}

// pin seals for a session: which epoch it holds now.
func (m *Model) pin(session int) (int, api.Errno) {
	if len(m.held[session]) >= m.pins {
		return 0, api.ErrPins
	}
	epoch := m.now
	if errno := m.seal(); errno != api.OK {
		return 0, errno
	}
	m.hold(session, epoch, maps.Clone(m.cells))
	return epoch, api.OK
}

func (m *Model) join(session, epoch int) api.Errno {
	then, there := m.heldBySome(epoch)
	_, own := m.held[session][epoch]
	switch {
	case !there:
		return api.ErrEpoch
	case own:
		return api.OK
	case len(m.held[session]) >= m.pins:
		return api.ErrPins
	}
	m.hold(session, epoch, then)
	return api.OK
}

func (m *Model) release(session, epoch int) api.Errno {
	if _, own := m.held[session][epoch]; !own {
		return api.ErrEpoch
	}
	delete(m.held[session], epoch)
	return api.OK
}

func (m *Model) hold(session, epoch int, then cells) {
	if m.held[session] == nil {
		m.held[session] = map[int]cells{}
	}
	m.held[session][epoch] = then
}

// heldBySome tells what the map was at an epoch; whoever holds it holds the same.
func (m *Model) heldBySome(epoch int) (cells, bool) {
	for _, epochs := range m.held {
		if then, there := epochs[epoch]; there {
			return then, true
		}
	}
	return nil, false
}

// Leave lets go all that a session holds.
func (m *Model) Leave(session int) int {
	count := len(m.held[session])
	delete(m.held, session)
	return count
}
