package coord

import (
	"gaffer/api"
	"gaffer/session"
	"gaffer/wire"
)

// doing is what is done with a message: the bytes that are said then, none if nothing is.
type doing func(from api.Addr, m api.Msg) string

// doings are those of the messages that runners say to a coordinator, by their kinds.
func (x *Coord) doings() [api.MsgChunk + 1]doing {
	return [...]doing{
		api.MsgHello: x.hello,
		api.MsgPoll:  x.once(x.poll),
		api.MsgBeat:  x.once(x.beat),
		api.MsgDone:  x.once(x.done),
		api.MsgChunk: x.chunk,
	}
}

// hear is what is said to bytes, if they are a message for a coordinator, from one of its runners.
func (x *Coord) hear(from api.Addr, data string) string {
	m, e := wire.Decode(data)
	if e != api.OK || m.Kind > api.MsgChunk || !isRunner(x.config, from) {
		return ""
	}
	return x.doings()[m.Kind](from, m)
}

func (x *Coord) hello(from api.Addr, _ api.Msg) string {
	what, known := x.sessions.Hello(slotOf(from), from.Life)
	switch what {
	case session.Known:
		return bytesOf(api.Msg{Kind: api.MsgWelcome, Session: known})
	case session.Fresh:
		return x.welcome(from)
	}
	return ""
}

// welcome begins a session: the badge is reserved on the disk ahead of anybody's hearing of it.
func (x *Coord) welcome(from api.Addr) string {
	fresh, reserve, ok := x.draw()
	if !ok {
		return ""
	}
	x.change(reserve...)
	x.sessions.Open(slotOf(from), from.Life, fresh)
	return bytesOf(api.Msg{Kind: api.MsgWelcome, Session: fresh})
}

// once has a request act the first time alone: from then on its reply is at hand.
func (x *Coord) once(act func(api.Addr, api.Msg) api.Msg) doing {
	return func(from api.Addr, m api.Msg) string {
		what, reply := x.sessions.Ask(slotOf(from), from.Life, m.Session, m.Number)
		switch what {
		case session.Stale:
			return replyTo(m, api.Msg{Kind: api.MsgStale})
		case session.New:
			reply = replyTo(m, act(from, m))
			x.sessions.Answer(slotOf(from), reply)
		}
		return reply
	}
}

func (x *Coord) poll(from api.Addr, _ api.Msg) api.Msg {
	job := x.state.Head()
	if job == 0 {
		return api.Msg{Kind: api.MsgNone}
	}
	badge, l, ok := x.draw()
	if !ok {
		return api.Msg{Kind: api.MsgNone}
	}
	// One record: who starts behind a cut finds both, or neither.
	x.change(append(l, api.Change{Kind: api.ChGrant, Job: job, Badge: badge, Slot: slotOf(from), Life: from.Life})...)
	p, _ := x.state.Find(badge)
	x.lend(p, x.config.Window)
	return api.Msg{Kind: api.MsgOffer, Job: job, Badge: badge, Program: p.Program}
}

func (x *Coord) beat(from api.Addr, m api.Msg) api.Msg {
	if _, held := x.heldBy(from, m.Badge); !held {
		return api.Msg{Kind: api.MsgGone}
	}
	x.leases.Renew(m.Badge)
	return api.Msg{Kind: api.MsgAlive}
}

func (x *Coord) done(from api.Addr, m api.Msg) api.Msg {
	// A runner may have missed the reply of a session that is gone: what is recorded under its badge it is told anew.
	if p, _ := x.state.Find(m.Badge); p.Row.Status == api.Recorded {
		return api.Msg{Kind: api.MsgRecorded}
	}
	if p, held := x.heldBy(from, m.Badge); !held || len(p.Log) != m.Count {
		return api.Msg{Kind: api.MsgGone}
	}
	x.change(api.Change{Kind: api.ChSettle, Badge: m.Badge, Result: m.Result})
	x.release(m.Badge)
	return api.Msg{Kind: api.MsgRecorded}
}

func (x *Coord) chunk(from api.Addr, m api.Msg) string {
	p, held := x.heldBy(from, m.Badge)
	if !held {
		return ""
	}
	// Also if the stitcher refuses it the runner is told where the log stands.
	texts, _ := x.streams[m.Badge].Take(m.Index, m.Text)
	if len(texts) > 0 {
		x.change(api.Change{Kind: api.ChLog, Badge: m.Badge, Texts: texts})
	}
	return bytesOf(api.Msg{Kind: api.MsgAck, Badge: m.Badge, Count: len(p.Log) + len(texts)})
}

// replyTo is the bytes of a reply, which bears what its request bore.
func replyTo(m, reply api.Msg) string {
	reply.Session, reply.Number = m.Session, m.Number
	return bytesOf(reply)
}

// bytesOf: of messages that may be, since what is in them comes of messages and states that may be.
func bytesOf(m api.Msg) string {
	b, _ := wire.Encode(m)
	return b
}
