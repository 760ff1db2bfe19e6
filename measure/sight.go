package measure

import (
	"slices"

	"gaffer/api"
	"gaffer/cluster"
	"gaffer/wire"
)

// sight is a fleet as it stands, looked at once: so all that is asked of it is of one moment.
type sight struct {
	config api.Config
	jobs   []api.Place
	leases []api.Lease
	desks  []api.Desk
	looks  []api.Look // of the runners that are up
	mail   []letter   // what can be read of the bag, by its places
}

// letter is a message under way.
type letter struct {
	api.Msg
	from, to api.Addr
}

// look is false, if the coordinator is down, or each runner is.
func look(x *cluster.Cluster) (sight, bool) {
	view, up := x.View()
	s := sight{config: x.Config(), jobs: view.Jobs}
	s.leases, _ = x.Leases()
	s.desks, _ = x.Sessions()
	for slot := range s.config.Runners {
		if l, up := x.Runner(slot); up {
			s.looks = append(s.looks, l)
		}
	}
	for _, d := range x.Bag() {
		if m, e := wire.Decode(d.Data); e == api.OK {
			s.mail = append(s.mail, letter{m, d.From, d.To})
		}
	}
	return s, up && len(s.looks) > 0
}

// first is the first of a list that fits.
func first[T any](l []T, fits func(T) bool) (T, bool) {
	if i := slices.IndexFunc(l, fits); i >= 0 {
		return l[i], true
	}
	var none T
	return none, false
}

func address(slot, life int) api.Addr { return api.Addr{Node: api.NodeRunner + slot, Life: life} }

// desk is the row of a runner's session, if the session is known.
func (s sight) desk(l api.Look) (api.Desk, bool) {
	return first(s.desks, func(d api.Desk) bool {
		return l.Session > 0 && d.Slot == l.Slot && d.Life == l.Life && d.Session == l.Session
	})
}

// offered is the badge that a runner is offered; 0: none.
func (s sight) offered(l api.Look) int {
	if l.Job > 0 || l.Waits == 0 {
		return 0
	}
	reply, comes := first(s.mail, func(m letter) bool {
		return m.to == address(l.Slot, l.Life) && m.Session == l.Session && m.Number == l.Waits && endsPoll(m.Kind)
	})
	if comes {
		return badgeOffered(reply.Msg)
	}
	d, known := s.desk(l)
	if !known || d.Last != l.Waits {
		return 0
	}
	kept, _ := wire.Decode(d.Reply)
	return badgeOffered(kept)
}

// endsPoll: whether a runner that waits for its poll's answer waits no more behind this.
func endsPoll(kind int) bool {
	return kind == api.MsgOffer || kind == api.MsgStale || kind == api.MsgNone
}

func badgeOffered(m api.Msg) int {
	if m.Kind != api.MsgOffer {
		return 0
	}
	return m.Badge
}

// beaten: whether a beat is under way that will renew the lease of a held job.
func (s sight) beaten(r api.Row) bool {
	return slices.ContainsFunc(s.mail, func(m letter) bool {
		return m.Kind == api.MsgBeat && m.Badge == r.Badge && m.from == r.Holder && s.isNext(m)
	})
}

// isNext: whether a request is the one that its session acts on next.
func (s sight) isNext(m letter) bool {
	return slices.ContainsFunc(s.desks, func(d api.Desk) bool {
		return address(d.Slot, d.Life) == m.from && d.Session == m.Session && d.Last == m.Number-1
	})
}
