package sink_test

import (
	"math/rand"
	"slices"
	"testing"

	"gaffer/api"
	"gaffer/chunks"
	"gaffer/net"
	"gaffer/sink"
	"gaffer/wire"
)

// attempt is a sender of chapter 14 that lays an artefact under a badge, till it is refused.
type attempt struct {
	job, badge int
	addr       api.Addr
	sender     *chunks.Sender
	texts      []string // the claim and the pieces
	refused    bool
}

// yard is a sink, the attempts that lay their pieces there, and a net between; whoever has it chooses what arrives.
type yard struct {
	t        *testing.T
	s        *sink.Sink
	n        *net.Net
	attempts []*attempt
	admitted []api.Event
}

func newYard(t *testing.T) *yard { return &yard{t: t, s: sink.New(), n: net.New()} }

// begin is an attempt more, under the next badge, with so many pieces.
func (y *yard) begin(job, window, resend, pieces int) {
	y.t.Helper()
	sender, e := chunks.New(window, resend)
	if e != api.OK {
		y.t.Fatalf("chunks.New: %v", e)
	}
	badge := len(y.attempts) + 1
	a := &attempt{job: job, badge: badge, addr: api.Addr{Node: 2, Life: badge}, sender: sender}
	for i := range pieces + 1 {
		a.texts = append(a.texts, name(badge, i))
		sender.Put(a.texts[i])
	}
	y.attempts = append(y.attempts, a)
}

// say has an attempt say what is due.
func (y *yard) say(a *attempt) {
	y.t.Helper()
	if a.refused {
		return
	}
	for _, x := range a.sender.Due() {
		data, e := wire.Encode(api.Msg{Kind: api.MsgPut, Job: a.job, Badge: a.badge, Index: x.Index, Text: x.Text})
		if e != api.OK {
			y.t.Fatalf("Encode: %v", e)
		}
		y.n.Send(a.addr, api.Addr{Node: api.NodeSink}, data)
	}
}

// arrive delivers the datagram at a place.
func (y *yard) arrive(place int) {
	y.t.Helper()
	d, e := y.n.Take(place)
	if e != api.OK {
		y.t.Fatalf("Take(%d): %v", place, e)
	}
	if d.To.Node == api.NodeSink {
		for _, x := range y.s.Hear(d.From, d.Data) {
			y.n.Send(x.From, x.To, x.Data)
		}
		y.safe()
		return
	}
	m, e := wire.Decode(d.Data)
	a := y.attempts[d.To.Life-1]
	if e != api.OK || d.From != (api.Addr{Node: api.NodeSink}) || m.Job != a.job || m.Badge != a.badge {
		y.t.Fatalf("%+v was said to %+v", d, *a)
	}
	switch m.Kind {
	case api.MsgTook:
		a.sender.Ack(m.Count)
	case api.MsgRefused:
		a.refused = true
	}
	y.safe()
}

// last is a job's artefact, if there is one.
func (y *yard) last(job int) (api.Artefact, bool) {
	for _, a := range y.s.Artefacts() {
		if a.Job == job {
			return a, true
		}
	}
	return api.Artefact{}, false
}

// safe: an artefact is a beginning of what its attempt lays, and at least what is acked there; who is refused has a badge below it.
func (y *yard) safe() {
	y.t.Helper()
	y.admitted = append(y.admitted, y.s.Told()...)
	for _, a := range y.attempts {
		got, there := y.last(a.job)
		switch {
		case a.refused && (!there || got.Badge <= a.badge), !there && a.sender.Acked() > 0, got.Badge < a.badge && a.sender.Acked() > 0:
			y.t.Fatalf("%+v: the badge %d, refused %v, %d acked", got, a.badge, a.refused, a.sender.Acked())
		case there && got.Badge == a.badge:
			n := len(got.Pieces) + 1
			if n > len(a.texts) || !slices.Equal(got.Pieces, a.texts[1:n]) || a.sender.Acked() > n {
				y.t.Fatalf("%+v, of %q; %d acked", got, a.texts, a.sender.Acked())
			}
		}
	}
}

// calm goes on till of each job the last attempt's artefact is there and acked, and all others are refused, or acked too.
func (y *yard) calm() {
	y.t.Helper()
	for range 17*(16+2) + 2 {
		open := 0
		for _, a := range y.attempts {
			a.sender.Tick()
			y.say(a)
			if !a.refused && a.sender.Acked() < len(a.texts) {
				open++
			}
		}
		for range y.n.Len() {
			y.arrive(0)
		}
		if open == 0 {
			break
		}
	}
	for i, a := range y.attempts {
		got, _ := y.last(a.job)
		later := slices.ContainsFunc(y.attempts[i+1:], func(x *attempt) bool { return x.job == a.job })
		if !later && (a.refused || got.Badge != a.badge || !slices.Equal(got.Pieces, a.texts[1:]) || a.sender.Acked() < len(a.texts)) {
			y.t.Fatalf("%+v, not %d and %q; refused %v, %d acked", got, a.badge, a.texts, a.refused, a.sender.Acked())
		}
	}
	inOrder(y.t, y.admitted)
	asAdmitted(y.t, y.admitted, y.s.Artefacts())
}

// Attempts at some jobs over a net that loses, doubles and exchanges, the later ones while the earlier ones still lay theirs.
func TestP16_5Streams(t *testing.T) {
	refused, over := 0, 0
	for seed := range int64(200) {
		rnd := rand.New(rand.NewSource(seed))
		y := newYard(t)
		for step := range 500 {
			if step%60 == 0 {
				y.begin(1+rnd.Intn(2), 1+rnd.Intn(8), 1+rnd.Intn(16), rnd.Intn(17))
			}
			a := y.attempts[rnd.Intn(len(y.attempts))]
			switch k := rnd.Intn(12); {
			case k < 3:
				a.sender.Tick()
				y.say(a)
			case y.n.Len() == 0:
			case k == 3:
				y.n.Drop(rnd.Intn(y.n.Len()))
			case k == 4 && y.n.Len() < 40:
				y.n.Dup(rnd.Intn(y.n.Len()))
			default:
				y.arrive(rnd.Intn(y.n.Len()))
			}
		}
		y.calm()
		for i, x := range y.admitted {
			if x.Index == 0 && slices.ContainsFunc(y.admitted[:i], func(e api.Event) bool { return e.Job == x.Job }) {
				over++
			}
		}
		for _, a := range y.attempts {
			if a.refused {
				refused++
			}
		}
	}
	if refused < 100 || over < 100 {
		t.Errorf("just %d attempts were refused, %d artefacts were taken over", refused, over)
	}
}
