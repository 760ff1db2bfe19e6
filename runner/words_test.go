package runner_test

import (
	"encoding/binary"
	"slices"

	"gaffer/api"
	"gaffer/interp"
	"gaffer/prog"
	"gaffer/wire"
)

// The chapter's words, told a second time: by a clock that counts up, by all that a program's machine will ever do, known from the offer on, and by bytes that another library lays.

const top = 1 << 40

// words tells a runner.
type words struct {
	c               api.Config
	slot, life, now int // now: ticks
	session, most   int // most: the greatest one that it had
	last            int
	way             api.Msg // what is under way; of the Kind 0: nothing
	again           int     // the tick at which it is said (anew)
	job             *lent
	told            []api.Event
}

// lent is a job.
type lent struct {
	job, badge    int
	acts          []interp.Act // of each instruction, up to the end
	result        api.Result
	done          int
	log, artefact stream
}

// stream is a sender without its texts: these are told by what was done.
type stream struct{ acked, said, again int }

func begins(c api.Config, slot, life int) *words { return &words{c: c, slot: slot, life: life} }

// actsOf is what each instruction of a program tells, and the result; false, if the bytes are no program's.
func actsOf(b string) ([]interp.Act, api.Result, bool) {
	p, e := prog.Unpack(b)
	if e != 0 {
		return nil, api.Result{}, false
	}
	m, _ := interp.New(p)
	var l []interp.Act
	for !m.Over() {
		a, _ := m.Step()
		l = append(l, a)
	}
	return l, m.Result(), true
}

func (j *lent) over() bool { return j.done == len(j.acts) }

// texts of one of the senders, as far as the machine has come.
func (j *lent) texts(kind int) []string {
	var l []string
	if kind == interp.Wrote {
		l = append(l, "")
	}
	for _, a := range j.acts[:j.done] {
		if a.Kind == kind {
			l = append(l, a.Text)
		}
	}
	return l
}

func (j *lent) chunks() []string { return j.texts(interp.Emitted) }
func (j *lent) pieces() []string { return j.texts(interp.Wrote) }

// left is the ticks until something is said anew.
func (w *words) left(again int) int { return max(0, again-w.now) }

func (w *words) room() bool {
	j := w.job
	return len(j.chunks())-j.log.acked < w.c.Window && len(j.pieces())-j.artefact.acked < w.c.Window
}

// due is the numbers that a stream of so many texts has to say now.
func (w *words) due(s *stream, texts int) []int {
	var l []int
	for i := range texts {
		if i >= s.acked && i < s.acked+w.c.Window && (i >= s.said || w.left(s.again) == 0) {
			l = append(l, i)
		}
	}
	if len(l) > 0 {
		s.said = max(s.said, l[len(l)-1]+1)
		if w.left(s.again) == 0 {
			s.again = w.now + w.c.Resend
		}
	}
	return l
}

func (w *words) ack(s *stream, texts, count int) {
	if count > s.acked && count <= s.said {
		s.acked = count
		if count == texts {
			s.again = w.now
		}
	}
}

func (w *words) address() api.Addr { return api.Addr{Node: 2 + w.slot, Life: w.life} }

func (w *words) tick() { w.now++ }

func (w *words) tell(v api.Event) {
	v.Who, v.Job, v.Badge = w.address(), w.job.job, w.job.badge
	w.told = append(w.told, v)
}

func (w *words) reckon() {
	j := w.job
	for n := 0; n < w.c.Quantum && !j.over() && w.room(); n++ {
		a := j.acts[j.done]
		j.done++
		switch a.Kind {
		case interp.Emitted:
			w.tell(api.Event{Kind: 10, Index: len(j.chunks()) - 1, Text: a.Text})
		case interp.Wrote:
			w.tell(api.Event{Kind: 11, Index: len(j.pieces()) - 1, Text: a.Text})
		}
		if j.over() {
			w.tell(api.Event{Kind: 12, Count: len(j.chunks()), Result: j.result})
		}
	}
}

func (w *words) step() []api.Datagram {
	var out []api.Datagram
	say := func(node int, data string) {
		out = append(out, api.Datagram{From: w.address(), To: api.Addr{Node: node}, Data: data})
	}
	if j := w.job; j != nil {
		w.reckon()
		l := j.chunks()
		for _, i := range w.due(&j.log, len(l)) {
			say(0, nums(5, j.badge, i)+text(l[i]))
		}
		l = j.pieces()
		for _, i := range w.due(&j.artefact, len(l)) {
			say(1, nums(6, j.job, j.badge, i)+text(l[i]))
		}
	}
	if w.way.Kind == 0 {
		w.wants()
	}
	if w.way.Kind != 0 && w.left(w.again) == 0 {
		w.again = w.now + w.c.Resend
		say(0, bytesOf(w.way))
	}
	return out
}

func (w *words) wants() {
	w.again = w.now
	if w.session == 0 {
		w.way = api.Msg{Kind: 1}
		return
	}
	w.last++
	w.way = api.Msg{Kind: 2, Session: w.session, Number: w.last}
	if j := w.job; j != nil {
		w.way.Kind, w.way.Badge = 3, j.badge
		if j.over() && j.log.acked == len(j.chunks()) && j.artefact.acked == len(j.pieces()) {
			w.way.Kind, w.way.Count, w.way.Result = 4, len(j.chunks()), j.result
		}
	}
}

func (w *words) hear(from api.Addr, data string) {
	m, e := wire.Decode(data)
	if e != 0 {
		return
	}
	switch from {
	case api.Addr{}:
		w.coordSays(m)
	case api.Addr{Node: 1}:
		if j := w.job; j != nil && j.job == m.Job && j.badge == m.Badge {
			switch m.Kind {
			case 15:
				w.ack(&j.artefact, len(j.pieces()), m.Count)
			case 16:
				w.job = nil
			}
		}
	}
}

func (w *words) coordSays(m api.Msg) {
	if m.Kind == 14 {
		if j := w.job; j != nil && j.badge == m.Badge {
			w.ack(&j.log, len(j.chunks()), m.Count)
		}
		return
	}
	if w.way.Kind == 1 && m.Kind == 7 && m.Session > w.most {
		w.session, w.most, w.last = m.Session, m.Session, 0
		w.way, w.again = api.Msg{}, w.now
		return
	}
	if w.way.Number == 0 || m.Session != w.way.Session || m.Number != w.way.Number {
		return
	}
	fits := map[int][]int{2: {10, 9}, 3: {11, 12}, 4: {13, 12}}[w.way.Kind]
	switch {
	case m.Kind == 8:
		w.session = 0
	case !slices.Contains(fits, m.Kind):
		return
	case m.Kind == 9 && w.job == nil:
		if acts, result, ok := actsOf(m.Program); ok {
			w.job = &lent{job: m.Job, badge: m.Badge, acts: acts, result: result}
		}
	case m.Kind == 12 || m.Kind == 13:
		w.job = nil
	}
	w.way, w.again = api.Msg{}, w.now
}

func (w *words) tells() []api.Event {
	l := w.told
	w.told = nil
	return l
}

func (w *words) look() api.Look {
	l := api.Look{Slot: w.slot, Life: w.life, Session: w.session, Waits: w.way.Number, Busy: w.way.Kind != 0}
	if l.Busy {
		l.Timer = w.left(w.again)
	}
	if j := w.job; j != nil {
		l.Job, l.Badge, l.Fuel, l.Over = j.job, j.badge, j.done, j.over()
		if l.Over {
			l.Result = j.result
		}
		l.Chunks, l.ChunksAcked, l.ChunksSaid, l.ChunksTimer = len(j.chunks()), j.log.acked, j.log.said, w.left(j.log.again)
		l.Pieces, l.PiecesAcked, l.PiecesSaid, l.PiecesTimer = len(j.pieces()), j.artefact.acked, j.artefact.said, w.left(j.artefact.again)
	}
	return l
}

func (w *words) clone() *words {
	c := *w
	c.told = slices.Clone(w.told)
	if w.job != nil {
		j := *w.job
		c.job = &j
	}
	return &c
}

// bytes

func nums(l ...int) string {
	var b []byte
	for _, n := range l {
		b = binary.AppendUvarint(b, uint64(n))
	}
	return string(b)
}

func text(s string) string { return nums(len(s)) + s }

// bytesOf a Hello or a request.
func bytesOf(m api.Msg) string {
	switch m.Kind {
	case 1:
		return nums(1)
	case 2:
		return nums(2, m.Session, m.Number)
	case 3:
		return nums(3, m.Session, m.Number, m.Badge)
	}
	return nums(4, m.Session, m.Number, m.Badge, m.Count, m.Result.Code) + string(binary.BigEndian.AppendUint64(nil, m.Result.Bits))
}
