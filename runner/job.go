package runner

import (
	"gaffer/api"
	"gaffer/chunks"
	"gaffer/interp"
	"gaffer/prog"
)

// job is what a runner was lent: it goes on as its machine does.
type job struct {
	*interp.Machine
	number, badge int
	log, artefact *chunks.Sender // never full: a machine traps ahead of that
}

// newJob is the one of an offer; nil, if its program is none.
func newJob(offer api.Msg, window, resend int) *job {
	p, e := prog.Unpack(offer.Program)
	if e != api.OK {
		return nil
	}
	j := &job{number: offer.Job, badge: offer.Badge}
	// None of these is refused: Unpack answers programs that may be, and a runner's window and resend may be.
	j.Machine, _ = interp.New(p)
	j.log, _ = chunks.New(window, resend)
	j.artefact, _ = chunks.New(window, resend)
	j.artefact.Put("") // the claim
	return j
}

// goesOn tells whether the machine may do an instruction: what it may tell must find room.
func (j *job) goesOn() bool {
	return !j.Over() && j.log.Room() && j.artefact.Room()
}

// next does an instruction: the events that come of it.
func (j *job) next() []api.Event {
	var out []api.Event
	switch act, _ := j.Step(); act.Kind {
	case interp.Emitted:
		out = append(out, api.Event{Kind: api.EvEmitted, Index: j.log.Len(), Text: act.Text})
		j.log.Put(act.Text)
	case interp.Wrote:
		out = append(out, api.Event{Kind: api.EvWrote, Index: j.artefact.Len(), Text: act.Text})
		j.artefact.Put(act.Text)
	}
	if j.Over() {
		out = append(out, api.Event{Kind: api.EvEnded, Count: j.log.Len(), Result: j.Result()})
	}
	return out
}

// dueChunks is what is to be said of the log now.
func (j *job) dueChunks() []api.Msg {
	var out []api.Msg
	for _, x := range j.log.Due() {
		out = append(out, api.Msg{Kind: api.MsgChunk, Badge: j.badge, Index: x.Index, Text: x.Text})
	}
	return out
}

// duePieces is what is to be said of the artefact now.
func (j *job) duePieces() []api.Msg {
	var out []api.Msg
	for _, x := range j.artefact.Due() {
		out = append(out, api.Msg{Kind: api.MsgPut, Job: j.number, Badge: j.badge, Index: x.Index, Text: x.Text})
	}
	return out
}

// request is what the coordinator is asked next: the result is said only when all that belongs to it has come.
func (j *job) request() api.Msg {
	if !j.allAcked() {
		return api.Msg{Kind: api.MsgBeat, Badge: j.badge}
	}
	return api.Msg{Kind: api.MsgDone, Badge: j.badge, Count: j.log.Len(), Result: j.Result()}
}

func (j *job) allAcked() bool {
	return j.Over() && j.log.Acked() == j.log.Len() && j.artefact.Acked() == j.artefact.Len()
}

// show lays how it stands into a look.
func (j *job) show(l *api.Look) {
	l.Job, l.Badge = j.number, j.badge
	l.Fuel, l.Over, l.Result = j.Done(), j.Over(), j.Result()
	l.Chunks, l.ChunksAcked, l.ChunksSaid, l.ChunksTimer = j.log.Len(), j.log.Acked(), j.log.Said(), j.log.Timer()
	l.Pieces, l.PiecesAcked, l.PiecesSaid, l.PiecesTimer = j.artefact.Len(), j.artefact.Acked(), j.artefact.Said(), j.artefact.Timer()
}

func (j *job) clone() *job {
	return &job{Machine: j.Clone(), number: j.number, badge: j.badge, log: j.log.Clone(), artefact: j.artefact.Clone()}
}
