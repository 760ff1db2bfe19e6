package measure_test

import (
	"slices"

	"gaffer/api"
	"gaffer/cluster"
	"gaffer/wire"
)

// words tell the chapter anew, sentence by sentence: each asks the fleet itself.
type words struct {
	x *cluster.Cluster
	c api.Config
}

func told(x *cluster.Cluster) words { return words{x, x.Config()} }

// fullOf is 2 MaxFuel + Lease + 16.
func fullOf(c api.Config) int { return 2048 + c.Lease + 16 }

func (w words) down() bool {
	runners := 0
	for n := 2; n < 2+w.c.Runners; n++ {
		if w.x.Up(n) {
			runners++
		}
	}
	return !w.x.Up(0) || runners == 0
}

// runnerAt is the look of the runner whose address that is, if it is up.
func (w words) runnerAt(a api.Addr) (api.Look, bool) {
	l, up := w.x.Runner(a.Node - 2)
	if !up || l.Life != a.Life {
		return api.Look{}, false
	}
	return l, true
}

// row is what the sessions have of an address; none: the zero one.
func (w words) row(a api.Addr) api.Desk {
	l, _ := w.x.Sessions()
	for _, d := range l {
		if d.Slot+2 == a.Node && d.Life == a.Life {
			return d
		}
	}
	return api.Desk{}
}

// post is the messages under way to an address, by their places, each with whose it is.
func (w words) post(to api.Addr) (l []api.Msg, from []api.Addr) {
	for _, d := range w.x.Bag() {
		if d.To != to {
			continue
		}
		if m, e := wire.Decode(d.Data); e == api.OK {
			l, from = append(l, m), append(from, d.From)
		}
	}
	return l, from
}

func (w words) holds(badge int, a api.Addr) bool {
	v, _ := w.x.View()
	for _, p := range v.Jobs {
		if p.Row.Status == api.Held && p.Row.Badge == badge && p.Row.Holder == a {
			return true
		}
	}
	return false
}

func (w words) known(a api.Addr, l api.Look) bool {
	return l.Session > 0 && w.row(a).Session == l.Session
}

// offer is the badge that the runner of an address is offered.
func (w words) offer(a api.Addr) int {
	l, up := w.runnerAt(a)
	if !up || l.Job != 0 || l.Waits <= 0 {
		return 0
	}
	post, _ := w.post(a)
	for _, m := range post {
		if m.Session != l.Session || m.Number != l.Waits {
			continue
		}
		switch m.Kind {
		case api.MsgOffer:
			return m.Badge
		case api.MsgStale, api.MsgNone:
			return 0
		}
	}
	if !w.known(a, l) || w.row(a).Last != l.Waits {
		return 0
	}
	if m, e := wire.Decode(w.row(a).Reply); e == api.OK && m.Kind == api.MsgOffer {
		return m.Badge
	}
	return 0
}

func (w words) beaten(r api.Row) bool {
	post, from := w.post(api.Addr{})
	d := w.row(r.Holder)
	for i, m := range post {
		if m.Kind == api.MsgBeat && m.Badge == r.Badge && from[i] == r.Holder && d.Session == m.Session && d.Last+1 == m.Number {
			return true
		}
	}
	return false
}

// rest of a held job, and by which of the chapter's lines it is: 1 to 3, and 4: the third one, with a beat.
func (w words) rest(r api.Row) (int, int) {
	if l, up := w.runnerAt(r.Holder); up && l.Badge == r.Badge {
		n := 5 + (l.Chunks - l.ChunksAcked) + (l.Pieces - l.PiecesAcked)
		if l.Over {
			return n, 1
		}
		return n + 2*(1024-l.Fuel), 1
	}
	if w.offer(r.Holder) == r.Badge {
		return 7 + 2048, 2
	}
	leases, _ := w.x.Leases()
	at := slices.IndexFunc(leases, func(l api.Lease) bool { return l.Job == r.Job && l.Badge == r.Badge })
	if w.beaten(r) {
		return leases[at].Left + w.c.Lease, 4
	}
	return leases[at].Left, 3
}

func (w words) before(a api.Addr, l api.Look) int {
	n := 0
	switch {
	case l.Session == 0:
		n = 1
		post, _ := w.post(a)
		for _, m := range post {
			if m.Kind == api.MsgWelcome && m.Session != w.row(a).Session {
				n = 3
			}
		}
	case !w.known(a, l):
		n = 2
	}
	badge := l.Badge
	if l.Job == 0 {
		badge = w.offer(a)
	}
	if badge != 0 && !w.holds(badge, a) {
		n++
	}
	return n
}

func (w words) units() (int, api.Errno) {
	if w.down() {
		return 0, api.ErrMeasureDown
	}
	n := 0
	v, _ := w.x.View()
	for _, p := range v.Jobs {
		if p.Row.Status == api.Queued || p.Row.Status == api.Held {
			n += fullOf(w.c) * (w.c.Attempts - p.Row.Attempts)
		}
		if p.Row.Status == api.Held {
			rest, _ := w.rest(p.Row)
			n += rest
		}
	}
	for slot := range w.c.Runners {
		if l, up := w.x.Runner(slot); up {
			n += w.before(api.Addr{Node: 2 + slot, Life: l.Life}, l)
		}
	}
	return n, api.OK
}

// of goes by the units of all of the rounds.
func (w words) of() (int, api.Errno) {
	u, e := w.units()
	if e != api.OK || w.x.Settled() {
		return 0, e
	}
	var l []int
	y := w.x.Clone()
	for range w.c.Resend + 3 {
		y.Step(api.Step{Kind: api.StRound})
		n, _ := told(y).units()
		l = append(l, n)
	}
	s := slices.IndexFunc(l, func(n int) bool { return n < u }) + 1
	if s == 0 {
		s = w.c.Resend + 3
	}
	return u*(w.c.Resend+4) + s, api.OK
}
