package coord

import (
	"slices"

	"gaffer/api"
	"gaffer/badge"
	"gaffer/lease"
	"gaffer/session"
	"gaffer/state"
	"gaffer/stitch"
)

// memory is what a coordinator has beside its disk: it goes with the power.
type memory struct {
	state    *state.State // as the log on the disk tells it
	badges   *badge.Counter
	leases   *lease.Table
	sessions *session.Table
	streams  map[int]*stitch.Window // of each job that is Held, by its badge
}

// remember is the memory of one that starts with this state. No call in it is refused: the config may be, and so may what a state has.
func remember(c api.Config, s *state.State) memory {
	m := memory{state: s, streams: map[int]*stitch.Window{}}
	m.badges, _ = badge.New(c.Block, s.Reserved())
	m.leases, _ = lease.New(c.Lease)
	m.sessions, _ = session.NewTable(c.Runners)
	for _, p := range s.View().Jobs {
		if p.Row.Status == api.Held {
			m.lend(p, c.Window)
		}
	}
	return m
}

// View is what it shows.
func (m *memory) View() api.View { return m.state.View() }

// Leases are those that run, by rising badges.
func (m *memory) Leases() []api.Lease { return slices.Collect(m.leases.All()) }

// Sessions is what it keeps of each slot.
func (m *memory) Sessions() []api.Desk { return m.sessions.Rows() }

// draw is a badge, and what is to be made ahead of its use; false, if none is left.
func (m *memory) draw() (int, []api.Change, bool) {
	n, reserve, e := m.badges.Next()
	switch {
	case e != api.OK:
		return 0, nil, false
	case reserve == 0:
		return n, nil, true
	}
	return n, []api.Change{{Kind: api.ChReserve, N: reserve}}, true
}

// heldBy is the job that an address holds under a badge.
func (m *memory) heldBy(holder api.Addr, badge int) (api.Place, bool) {
	p, ok := m.state.Find(badge)
	if !ok || p.Row.Status != api.Held || p.Row.Holder != holder {
		return api.Place{}, false
	}
	return p, true
}

// lend gives a job that is Held what goes with that.
func (m *memory) lend(p api.Place, window int) {
	m.leases.Grant(p.Row.Job, p.Row.Badge, p.Row.Holder)
	m.streams[p.Row.Badge], _ = stitch.New(window, len(p.Log))
}

// release takes it away again.
func (m *memory) release(badge int) {
	m.leases.Drop(badge)
	delete(m.streams, badge)
}

func (m *memory) clone() memory {
	c := memory{
		state:    m.state.Clone(),
		badges:   m.badges.Clone(),
		leases:   m.leases.Clone(),
		sessions: m.sessions.Clone(),
		streams:  map[int]*stitch.Window{},
	}
	for b, w := range m.streams {
		c.streams[b] = w.Clone()
	}
	return c
}
