package runner

import (
	"gaffer/api"
	"gaffer/session"
	"gaffer/wire"
)

// doing is what is done with a message.
type doing func(*Runner, api.Msg)

// doings are those of what a node says, by the messages' kinds; a kind that it has nothing to say with has none.
func doings(from api.Addr) [api.MsgRefused + 1]doing {
	switch from {
	case api.Addr{Node: api.NodeCoord}:
		return [api.MsgRefused + 1]doing{
			api.MsgWelcome:  (*Runner).noted,
			api.MsgStale:    (*Runner).noted,
			api.MsgOffer:    (*Runner).offered,
			api.MsgNone:     (*Runner).noted,
			api.MsgAlive:    (*Runner).noted,
			api.MsgGone:     (*Runner).dismissed,
			api.MsgRecorded: (*Runner).dismissed,
			api.MsgAck:      (*Runner).stored,
		}
	case api.Addr{Node: api.NodeSink}:
		return [api.MsgRefused + 1]doing{
			api.MsgTook:    (*Runner).admitted,
			api.MsgRefused: (*Runner).refused,
		}
	}
	return [api.MsgRefused + 1]doing{}
}

// Hear takes bytes that come.
func (r *Runner) Hear(from api.Addr, data string) {
	m, e := wire.Decode(data)
	if e != api.OK {
		return
	}
	if do := doings(from)[m.Kind]; do != nil {
		do(r, m)
	}
}

// noted: the caller alone has to do with it.
func (r *Runner) noted(m api.Msg) { r.caller.Hear(m) }

func (r *Runner) offered(m api.Msg) {
	if r.caller.Hear(m) == session.Answered && r.job == nil {
		r.job = newJob(m, r.window, r.resend)
	}
}

// dismissed: the badge holds no more, or the result is recorded under it. (What is answered is of the job that it has: none is taken while a request of another one is under way.)
func (r *Runner) dismissed(m api.Msg) {
	if r.caller.Hear(m) == session.Answered {
		r.job = nil
	}
}

func (r *Runner) stored(m api.Msg) {
	if r.job != nil && r.job.badge == m.Badge {
		r.job.log.Ack(m.Count)
	}
}

func (r *Runner) admitted(m api.Msg) {
	if r.lays(m) {
		r.job.artefact.Ack(m.Count)
	}
}

func (r *Runner) refused(m api.Msg) {
	if r.lays(m) {
		r.job = nil
	}
}

// lays tells whether what the sink says is of the artefact that it lays.
func (r *Runner) lays(m api.Msg) bool {
	return r.job != nil && r.job.number == m.Job && r.job.badge == m.Badge
}
