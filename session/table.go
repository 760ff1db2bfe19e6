package session

import (
	"slices"

	"gaffer/api"
)

// Table is the coordinator's side.
type Table struct {
	desks []api.Desk // one a slot; of the Life 0: the slot has no row
}

// NewTable is one of so many slots, without rows.
func NewTable(slots int) (*Table, api.Errno) {
	if slots < 1 || slots > api.MaxRunners {
		return nil, api.ErrSessionSlot
	}
	return &Table{desks: make([]api.Desk, slots)}, api.OK
}

// Hello tells what one is, and the session that is known.
func (t *Table) Hello(slot, life int) (int, int) {
	switch {
	case !t.has(slot) || !counts(life) || t.desks[slot].Life > life:
		return Old, 0
	case t.desks[slot].Life == life:
		return Known, t.desks[slot].Session
	}
	return Fresh, 0
}

// Open begins a session: what was known of the slot is gone.
func (t *Table) Open(slot, life, session int) api.Errno {
	switch {
	case !t.has(slot):
		return api.ErrSessionSlot
	case !counts(life) || !counts(session) || t.desks[slot].Life > life:
		return api.ErrSessionNone
	}
	t.desks[slot] = api.Desk{Slot: slot, Life: life, Session: session}
	return api.OK
}

// Ask tells what a request is, and the reply that it had.
func (t *Table) Ask(slot, life, session, number int) (int, string) {
	d, ok := t.row(slot)
	switch {
	case !ok || d.Life != life || d.Session != session:
		return Stale, ""
	case number == d.Last && number != 0:
		return Again, d.Reply
	case number == d.Last+1:
		return New, ""
	}
	return Pass, ""
}

// Answer gives the next request of a slot its reply.
func (t *Table) Answer(slot int, reply string) api.Errno {
	d, ok := t.row(slot)
	switch {
	case !t.has(slot):
		return api.ErrSessionSlot
	case !ok || d.Last == api.MaxNumber:
		return api.ErrSessionNone
	}
	d.Last, d.Reply = d.Last+1, reply
	t.desks[slot] = d
	return api.OK
}

// Rows are all, by their slots.
func (t *Table) Rows() []api.Desk {
	var l []api.Desk
	for slot := range t.desks {
		if d, ok := t.row(slot); ok {
			l = append(l, d)
		}
	}
	return l
}

// Clone is one that goes its own way.
func (t *Table) Clone() *Table {
	return &Table{desks: slices.Clone(t.desks)}
}

func (t *Table) has(slot int) bool { return slot >= 0 && slot < len(t.desks) }

// row is a slot's: none, also if there is no such slot.
func (t *Table) row(slot int) (api.Desk, bool) {
	if !t.has(slot) || t.desks[slot].Life == 0 {
		return api.Desk{}, false
	}
	return t.desks[slot], true
}

// counts tells whether a life, or a session, has that number.
func counts(n int) bool { return n >= 1 && n <= api.MaxNumber }
