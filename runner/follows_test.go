package runner_test

import (
	"math/rand"
	"slices"
	"testing"

	"gaffer/api"
	"gaffer/interp"
	"gaffer/prog"
	"gaffer/wire"
)

// watch holds what a runner says and tells against what may be, by what was said to it and by it, whatever it was (P19.7).
type watch struct {
	*both
	whole         api.Outcome // of the program that was offered
	acts          []interp.Act
	told          int     // so many of the acts that tell something were told
	ended         bool    // that was told
	chunks        [2]int  // acked, said
	pieces        [2]int  // likewise, the claim with them
	under         api.Msg // the request that was said and not answered
	dones, offers int
	events        int
}

// hears has a message come, and notes what it makes of the job.
func (w *watch) hears(from api.Addr, m api.Msg) {
	w.t.Helper()
	ahead := w.x.Look()
	w.hear(from, m)
	now := w.x.Look()
	switch {
	case ahead.Job == 0 && now.Job != 0:
		if from != (api.Addr{}) || m.Kind != api.MsgOffer || w.under.Kind != api.MsgPoll || m.Session != w.under.Session || m.Number != w.under.Number || now.Job != m.Job || now.Badge != m.Badge {
			w.t.Fatalf("%+v by %+v", now, m)
		}
		p, _ := prog.Unpack(m.Program)
		w.whole, _ = interp.Whole(p)
		acts, _, _ := actsOf(m.Program)
		w.acts = slices.DeleteFunc(acts, func(a interp.Act) bool { return a.Kind == interp.None })
		w.told, w.ended, w.chunks, w.pieces = 0, false, [2]int{}, [2]int{}
		w.offers++
	case ahead.Job != 0 && now.Job != 0 && (ahead.Job != now.Job || ahead.Badge != now.Badge):
		w.t.Fatalf("%+v became %+v by %+v", ahead, now, m)
	case ahead.Job != 0 && now.Job == 0 && m.Kind != api.MsgGone && m.Kind != api.MsgRecorded && m.Kind != api.MsgRefused:
		w.t.Fatalf("%+v dropped its job by %+v", ahead, m)
	}
	if from == (api.Addr{}) && m.Kind == api.MsgAck && m.Badge == now.Badge && m.Count <= w.chunks[1] {
		w.chunks[0] = max(w.chunks[0], m.Count)
	}
	if from == (api.Addr{Node: 1}) && m.Kind == api.MsgTook && m.Job == now.Job && m.Badge == now.Badge && m.Count <= w.pieces[1] {
		w.pieces[0] = max(w.pieces[0], m.Count)
	}
	if !now.Busy {
		w.under = api.Msg{}
	}
}

// steps has it do a Step, and looks at each message and event of it.
func (w *watch) steps() []api.Msg {
	w.t.Helper()
	l := messages(w.t, w.step())
	look := w.x.Look()
	for _, m := range l {
		switch m.Kind {
		case api.MsgChunk:
			if m.Badge != look.Badge || m.Index >= len(w.whole.Chunks) || m.Text != w.whole.Chunks[m.Index] {
				w.t.Fatalf("said %+v, of %+v", m, w.whole)
			}
			w.window(&w.chunks, m)
		case api.MsgPut:
			pieces := append([]string{""}, w.whole.Pieces...)
			if m.Job != look.Job || m.Badge != look.Badge || m.Index >= len(pieces) || m.Text != pieces[m.Index] {
				w.t.Fatalf("said %+v, of %+v", m, w.whole)
			}
			w.window(&w.pieces, m)
		case api.MsgDone:
			if w.under != m {
				w.first(look, m)
			}
			fallthrough
		case api.MsgHello, api.MsgPoll, api.MsgBeat:
			if w.under.Kind != 0 && w.under != m {
				w.t.Fatalf("said %+v, and %+v is under way", m, w.under)
			}
			w.under = m
		default:
			w.t.Fatalf("said %+v", m)
		}
	}
	w.tellings(look)
	return l
}

// first looks at a Done that is said for the first time. (Said anew it may be of a job that was dropped since.)
func (w *watch) first(look api.Look, m api.Msg) {
	w.t.Helper()
	if m.Badge != look.Badge || m.Count != len(w.whole.Chunks) || m.Result != w.whole.Result || w.chunks[0] != len(w.whole.Chunks) || w.pieces[0] != len(w.whole.Pieces)+1 {
		w.t.Fatalf("said %+v, of %+v, acked %v, %v", m, w.whole, w.chunks, w.pieces)
	}
	w.dones++
}

// window notes that an item was said: never one out of the window, never one ahead of its turn.
func (w *watch) window(s *[2]int, m api.Msg) {
	w.t.Helper()
	if m.Index < s[0] || m.Index > s[1] {
		w.t.Fatalf("said %+v, of %v", m, *s)
	}
	s[1] = max(s[1], m.Index+1)
	if s[1]-s[0] > w.w.c.Window {
		w.t.Fatalf("%v are under way", *s)
	}
}

// tellings looks at what was told in a Step: the next acts of its program, and its end behind the last one.
func (w *watch) tellings(look api.Look) {
	w.t.Helper()
	for _, v := range w.tell() {
		w.events++
		if w.ended || v.Job != look.Job || v.Badge != look.Badge || v.Who != w.w.address() {
			w.t.Fatalf("told %+v", v)
		}
		if v.Kind == api.EvEnded {
			if w.told != len(w.acts) || v.Count != len(w.whole.Chunks) || v.Result != w.whole.Result {
				w.t.Fatalf("told %+v, of %+v", v, w.whole)
			}
			w.ended = true
			continue
		}
		a := w.acts[w.told]
		of := func(a interp.Act) bool { return a.Kind == w.acts[w.told].Kind }
		index := len(slices.DeleteFunc(slices.Clone(w.acts[:w.told]), func(a interp.Act) bool { return !of(a) }))
		kind := api.EvEmitted
		if a.Kind == interp.Wrote {
			kind, index = api.EvWrote, index+1
		}
		if v.Kind != kind || v.Index != index || v.Text != a.Text {
			w.t.Fatalf("told %+v, not %+v at %d", v, a, index)
		}
		w.told++
	}
}

// silence has a copy of it hear no more, and looks at each row of Resend ticks, behind the Step from which on its machine can't go on.
func (w *watch) silence() {
	w.t.Helper()
	b := w.clone()
	for fuel := -1; fuel != b.x.Look().Fuel; {
		fuel = b.x.Look().Fuel
		b.step()
	}
	look, resend := b.x.Look(), b.w.c.Resend
	var rows [][]api.Msg
	for range 3 * resend {
		b.tick()
		rows = append(rows, messages(b.t, b.step()))
	}
	for i := range 2*resend + 1 {
		requests, chunks, pieces := 0, []int{}, []int{}
		for _, m := range slices.Concat(rows[i : i+resend]...) {
			switch m.Kind {
			case api.MsgChunk:
				chunks = append(chunks, m.Index)
			case api.MsgPut:
				pieces = append(pieces, m.Index)
			default:
				requests++
			}
		}
		slices.Sort(chunks)
		slices.Sort(pieces)
		if requests != 1 || !slices.Equal(chunks, from(look.ChunksAcked, look.ChunksSaid)) || !slices.Equal(pieces, from(look.PiecesAcked, look.PiecesSaid)) {
			b.t.Fatalf("%+v: in %d ticks of silence: %+v", look, resend, rows[i:i+resend])
		}
	}
}

// from is the numbers of a row.
func from(a, b int) []int {
	var l []int
	for i := a; i < b; i++ {
		l = append(l, i)
	}
	return l
}

// anyHearing is a message that may come of a coordinator or of a sink as they should be, or is near one.
func (w *watch) anyHearing(rnd *rand.Rand, badge *int) (api.Addr, api.Msg) {
	look := w.x.Look()
	s, n := max(1, w.under.Session), max(1, w.under.Number)
	switch rnd.Intn(20) {
	case 0:
		s++
	case 1:
		n++
	case 2:
		n = max(1, n-1)
	}
	held, job := max(1, look.Badge), max(1, look.Job)
	if rnd.Intn(12) == 0 {
		held = max(1, held+rnd.Intn(3)-1)
	}
	if rnd.Intn(12) == 0 {
		job = 1 + rnd.Intn(8)
	}
	coord, sink := api.Addr{}, api.Addr{Node: 1}
	switch k := rnd.Intn(40); {
	case k < 8:
		return coord, ack(held, min(32, max(0, look.ChunksAcked+rnd.Intn(w.w.c.Window+2))))
	case k < 17:
		return sink, took(job, held, min(17, max(0, look.PiecesAcked+rnd.Intn(w.w.c.Window+2))))
	case k == 17 && rnd.Intn(4) == 0:
		return sink, refused(job, held)
	case k == 18:
		return coord, refused(job, held)
	case k == 19:
		return coord, bare(api.MsgStale, s, n)
	}
	*badge++
	switch w.under.Kind {
	case api.MsgHello:
		return coord, welcome(*badge - rnd.Intn(3)/2*rnd.Intn(*badge))
	case api.MsgPoll:
		return coord, []api.Msg{bare(api.MsgNone, s, n), offer(s, n, job, *badge, anyProgram(rnd)), offer(s, n, job, *badge, anyProgram(rnd)), offer(s, n, job, *badge, "\x01\x01")}[rnd.Intn(4)]
	case api.MsgBeat:
		if rnd.Intn(12) == 0 {
			return coord, bare(api.MsgGone, s, n)
		}
		return coord, bare(api.MsgAlive, s, n)
	case api.MsgDone:
		return coord, bare([]int{api.MsgRecorded, api.MsgGone, api.MsgAlive}[rnd.Intn(3)], s, n)
	}
	l := all()
	return api.Addr{Node: rnd.Intn(3)}, l[rnd.Intn(len(l))]
}

// Whatever it hears, of any program and any config: all that it does is as the words have it, and what follows holds.
func TestP19_7Walks(t *testing.T) {
	offers, dones, events, silences := 0, 0, 0, 0
	for seed := range int64(250) {
		rnd := rand.New(rand.NewSource(seed))
		c := anyConfig(rnd)
		w := &watch{both: made(t, c, rnd.Intn(c.Runners), 1+rnd.Intn(9))}
		badge := 0
		for range 300 {
			switch rnd.Intn(8) {
			case 0, 1:
				w.steps()
			case 2:
				w.tick()
			case 3:
				w.tick()
				w.steps()
			default:
				w.hears(w.anyHearing(rnd, &badge))
			}
			if rnd.Intn(40) == 0 {
				w.silence()
				silences++
			}
			if rnd.Intn(20) == 0 {
				_, m := w.anyHearing(rnd, &badge)
				s := []byte(encoded(t, m))
				s[rnd.Intn(len(s))] ^= 1 << rnd.Intn(8)
				if _, e := wire.Decode(string(s)); e != api.OK {
					w.bytes(api.Addr{Node: rnd.Intn(2)}, string(s))
				}
			}
		}
		offers, dones, events = offers+w.offers, dones+w.dones, events+w.events
	}
	if offers < 1000 || dones < 200 || events < 4000 || silences < 1500 {
		t.Errorf("just %d offers, %d Dones, %d events, %d silences", offers, dones, events, silences)
	}
}

// calm has what it says answered as it should be, till it says Done; so many Steps it took.
func (w *watch) calm() int {
	w.t.Helper()
	chunks, pieces := 0, 0
	for n := 1; n < 3000; n++ {
		w.tick()
		for _, m := range w.steps() {
			switch m.Kind {
			case api.MsgDone:
				return n
			case api.MsgChunk:
				chunks = max(chunks, m.Index+1)
				w.hears(api.Addr{}, ack(m.Badge, chunks))
			case api.MsgPut:
				pieces = max(pieces, m.Index+1)
				w.hears(api.Addr{Node: 1}, took(m.Job, m.Badge, pieces))
			case api.MsgBeat:
				w.hears(api.Addr{}, bare(api.MsgAlive, m.Session, m.Number))
			}
		}
	}
	w.t.Fatal("no Done")
	return 0
}

// In calm every program comes to its Done, with all of what Whole tells.
func TestP19_7Calm(t *testing.T) {
	for seed := range int64(400) {
		rnd := rand.New(rand.NewSource(seed))
		c := anyConfig(rnd)
		w := &watch{both: made(t, c, 0, 1)}
		w.steps()
		w.hears(api.Addr{}, welcome(5))
		w.steps()
		w.hears(api.Addr{}, offer(5, 1, 3, 9, anyProgram(rnd)))
		w.calm()
		if w.told != len(w.acts) || !w.ended || w.chunks[1] != len(w.whole.Chunks) || w.pieces[1] != len(w.whole.Pieces)+1 {
			t.Fatalf("seed %d: told %d of %+v", seed, w.told, w.whole)
		}
	}
}
