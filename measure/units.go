package measure

import (
	"slices"

	"gaffer/api"
)

const (
	allFuel    = 2 * api.MaxFuel // what all instructions of a program cost
	offerTaken = 5               // behind the offer: beside instructions, chunks and pieces
	offerMade  = 7               // an offer that comes: likewise

	// What comes ahead of a runner's poll.
	wrongWelcome = 3
	noSession    = 1
	staleSession = 2
	wrongBadge   = 1
)

func (s sight) units() int {
	n := 0
	for _, p := range s.jobs {
		n += s.job(p.Row)
	}
	for _, l := range s.looks {
		n += s.ahead(l)
	}
	return n
}

// job is what is left of a job: of this attempt, and of all further ones.
func (s sight) job(r api.Row) int {
	n := 0
	switch r.Status {
	case api.Held:
		n = s.rest(r)
		fallthrough
	case api.Queued:
		n += full(s.config) * (s.config.Attempts - r.Attempts)
	}
	return n
}

// rest is what is left of a held job's attempt. Of one that nobody will end it is the time till its badge runs out.
func (s sight) rest(r api.Row) int {
	l, up := first(s.looks, func(l api.Look) bool { return address(l.Slot, l.Life) == r.Holder })
	if up && l.Badge == r.Badge {
		return work(l)
	}
	if up && s.offered(l) == r.Badge {
		return offerMade + allFuel
	}
	lease, _ := first(s.leases, func(l api.Lease) bool { return l.Badge == r.Badge })
	if s.beaten(r) {
		return lease.Left + s.config.Lease
	}
	return lease.Left
}

// work is what a runner has to do yet of the job that it holds.
func work(l api.Look) int {
	n := offerTaken + l.Chunks - l.ChunksAcked + l.Pieces - l.PiecesAcked
	if !l.Over {
		n += allFuel - 2*l.Fuel
	}
	return n
}

// ahead is what a runner has before it till it can poll.
func (s sight) ahead(l api.Look) int {
	n := s.toSession(l)
	badge := l.Badge
	if l.Job == 0 {
		badge = s.offered(l)
	}
	if badge > 0 && !s.held(badge, address(l.Slot, l.Life)) {
		n += wrongBadge
	}
	return n
}

// toSession is what a runner has before it till its session is known. A welcome to a session that is not costs it a round of its own.
func (s sight) toSession(l api.Look) int {
	_, known := s.desk(l)
	switch {
	case l.Session == 0 && s.misled(l):
		return wrongWelcome
	case l.Session == 0:
		return noSession
	case !known:
		return staleSession
	}
	return 0
}

// misled: whether a welcome is under way to a runner, to a session that is not known.
func (s sight) misled(l api.Look) bool {
	return slices.ContainsFunc(s.mail, func(m letter) bool {
		return m.Kind == api.MsgWelcome && m.to == address(l.Slot, l.Life) && !slices.ContainsFunc(s.desks, func(d api.Desk) bool {
			return d.Slot == l.Slot && d.Life == l.Life && d.Session == m.Session
		})
	})
}

// held: whether a badge is held by an address.
func (s sight) held(badge int, holder api.Addr) bool {
	return slices.ContainsFunc(s.jobs, func(p api.Place) bool {
		return p.Row.Status == api.Held && p.Row.Badge == badge && p.Row.Holder == holder
	})
}
