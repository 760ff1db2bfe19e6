package runner_test

import (
	"math"
	"strings"
	"testing"

	"gaffer/api"
	"gaffer/wire"
)

// stands are runners that stand in all ways that make a difference to what is heard, each with what it waits for.
func stands(t *testing.T) map[string]*both {
	t.Helper()
	c := config()
	l := map[string]*both{"new": made(t, c, 0, 1), "polling": polling(t, c)}
	l["hailing"] = made(t, c, 0, 1)
	l["hailing"].step()
	l["idle"] = made(t, c, 0, 1)
	l["idle"].step()
	l["idle"].coord(welcome(5))
	l["offered"] = working(t, c, sample())
	l["beating"] = working(t, c, sample())
	l["beating"].step()
	l["dropped"] = l["beating"].clone()
	l["dropped"].sink(refused(1, 7))
	l["acked"] = l["beating"].clone()
	l["acked"].coord(ack(7, 1), bare(api.MsgAlive, 5, 2))
	l["acked"].sink(took(1, 7, 2))
	l["done"] = l["acked"].clone()
	l["done"].step()
	l["lapsed"] = l["beating"].clone()
	l["lapsed"].coord(bare(api.MsgStale, 5, 2))
	l["hailing with a job"] = l["lapsed"].clone()
	l["hailing with a job"].step()
	return l
}

// all is a message of each kind, in the session and with the numbers that stands' ones have, or near them.
func all() []api.Msg {
	l := []api.Msg{hello()}
	for session := 4; session <= 6; session++ {
		l = append(l, welcome(session))
		for number := 1; number <= 4; number++ {
			for _, kind := range []int{api.MsgPoll, api.MsgStale, api.MsgNone, api.MsgAlive, api.MsgGone, api.MsgRecorded} {
				l = append(l, bare(kind, session, number))
			}
			l = append(l, beat(session, number, 7), done(session, number, 7, 1, one), offer(session, number, 2, 8, sample()), offer(session, number, 1, 7, sample()), offer(session, number, 2, 8, "none"))
		}
	}
	for badge := 6; badge <= 8; badge++ {
		for n := range 4 {
			l = append(l, chunk(badge, n, "1p0"), ack(badge, n))
			for job := 1; job <= 2; job++ {
				l = append(l, put(job, badge, n, strings.Repeat("1p0", min(1, n))), took(job, badge, n), refused(job, badge))
			}
		}
	}
	return l
}

// Every message to every stand, from the coordinator and from the sink: as the words have it, now and in what comes next.
func TestP19_4EveryMessage(t *testing.T) {
	changed := map[int]int{}
	for name, b := range stands(t) {
		for _, m := range all() {
			for node := range 2 {
				x := b.clone()
				x.hear(api.Addr{Node: node}, m)
				if x.x.Look() != b.x.Look() {
					changed[m.Kind] |= 1 << node
				}
				for range 3 {
					x.step()
					x.tick()
				}
				x.tell()
				if t.Failed() {
					t.Fatalf("%s: %+v", name, m)
				}
			}
		}
	}
	for kind := 1; kind <= 16; kind++ {
		want := 0
		switch {
		case kind == api.MsgTook || kind == api.MsgRefused:
			want = 2
		case kind >= api.MsgWelcome:
			want = 1
		}
		if changed[kind] != want {
			t.Errorf("the kind %d made a difference from the nodes %b", kind, changed[kind])
		}
	}
}

// From any other address nothing is heeded.
func TestP19_4OtherAddresses(t *testing.T) {
	for _, b := range stands(t) {
		for _, from := range []api.Addr{
			{Node: 0, Life: 1}, {Node: 1, Life: 1}, {Node: 0, Life: -1}, {Node: 1, Life: -1}, {Node: 2, Life: 1}, {Node: 2}, {Node: 3, Life: 1}, {Node: -1},
			{Node: math.MaxInt}, {Node: math.MinInt}, {Node: 0, Life: top}, {Node: 1, Life: math.MaxInt}, {Node: 1 << 32}, {Node: 1<<32 + 1},
		} {
			x := b.clone()
			for _, m := range all() {
				x.hear(from, m)
			}
			x.alike(b)
		}
	}
}

// Bytes that are no message make no difference, whoever says them.
func TestP19_4NoMessage(t *testing.T) {
	for _, b := range stands(t) {
		bad := []string{"", "\x00", "\x11", "x", "\x01\x00", strings.Repeat("a", 2048), strings.Repeat("\x01", 2049), strings.Repeat("\x07", 1<<20)}
		for _, m := range []api.Msg{welcome(6), bare(api.MsgStale, 5, 1), offer(5, 1, 1, 7, sample()), bare(api.MsgAlive, 5, 2), bare(api.MsgGone, 5, 2), bare(api.MsgRecorded, 5, 3), ack(7, 1), took(1, 7, 2), refused(1, 7)} {
			s := encoded(t, m)
			bad = append(bad, s+"\x00", s[:len(s)-1], "\x00"+s[1:], s[:1]+"\x00"+s[2:], s[:len(s)-1]+"\x80\x00")
		}
		x := b.clone()
		for _, s := range bad {
			if m, e := wire.Decode(s); e == api.OK {
				t.Fatalf("%q is %+v", s, m)
			}
			for node := range 3 {
				x.bytes(api.Addr{Node: node}, s)
			}
		}
		x.alike(b)
	}
}

// Hearing says nothing, and does no instruction: that is Step's.
func TestP19_4OnlyStepSpeaks(t *testing.T) {
	b := polling(t, config())
	b.coord(offer(5, 1, 1, 7, sample()))
	if l := b.x.Look(); l.Job != 1 || l.Fuel != 0 || l.Chunks != 0 || l.Pieces != 1 || l.PiecesSaid != 0 || l.Busy {
		t.Fatalf("Look: %+v", l)
	}
	b.tells()
	b.tick()
	if l := b.x.Look(); l.Fuel != 0 || l.PiecesTimer != 0 || l.Busy {
		t.Fatalf("Look: %+v", l)
	}
	b.tells()
}

// A program that is none: the Poll is answered, but no job is taken; it Polls on.
func TestP19_4OfferOfNoProgram(t *testing.T) {
	long := packed("fuel 9" + strings.Repeat("; set r0 1p0", 64))
	for _, p := range []string{"x", "\x00", sample() + "\x00", sample()[:len(sample())-1], strings.Repeat("\x01", 1024), long[:len(long)-1]} {
		b := polling(t, config())
		b.coord(offer(5, 1, 1, 7, p))
		if l := b.x.Look(); l != (api.Look{Life: 1, Session: 5}) {
			t.Fatalf("Look: %+v", l)
		}
		b.says(poll(5, 2))
		b.tells()
		b.ignores(api.Addr{}, offer(5, 1, 1, 7, sample()))
		b.coord(offer(5, 2, 1, 8, sample()))
		if l := b.x.Look(); l.Badge != 8 {
			t.Fatalf("Look: %+v", l)
		}
	}
}

// An Offer of another number, or of another session, or while another thing is under way, is none.
func TestP19_4OfferThatDoesNotFit(t *testing.T) {
	b := polling(t, config())
	for _, m := range []api.Msg{offer(5, 2, 1, 7, sample()), offer(4, 1, 1, 7, sample()), offer(6, 1, 1, 7, sample()), offer(top, top, 8, top, sample())} {
		b.ignores(api.Addr{}, m)
	}
	b.coord(bare(api.MsgNone, 5, 1))
	b.ignores(api.Addr{}, offer(5, 1, 1, 7, sample())) // it was answered already
	b.says(poll(5, 2))
	b.coord(offer(5, 2, 1, 7, sample()))
	for range 3 {
		b.ignores(api.Addr{}, offer(5, 2, 1, 7, sample())) // doubled
		b.ignores(api.Addr{}, offer(5, 2, 2, 8, packed("fuel 1; halt")))
		b.step()
		b.ignores(api.Addr{}, offer(5, 3, 2, 8, packed("fuel 1; halt"))) // a Beat is under way
	}
}

// An ack counts for the badge alone, and within what was said.
func TestP19_4Acks(t *testing.T) {
	c := config()
	c.Window, c.Quantum = 4, 64
	b := working(t, c, rising(100, "emit r0", "write r0"))
	b.ignores(api.Addr{}, ack(7, 1)) // nothing was said yet
	b.ignores(api.Addr{Node: 1}, took(1, 7, 1))
	b.step()
	if l := b.x.Look(); l.ChunksSaid != 3 || l.PiecesSaid != 4 {
		t.Fatalf("Look: %+v", l)
	}
	for _, m := range []api.Msg{ack(6, 1), ack(8, 1), ack(7, 0), ack(7, 4), ack(7, 32), took(1, 7, 1), took(1, 7, 4), chunk(7, 0, "1p0")} {
		b.ignores(api.Addr{}, m)
	}
	for _, m := range []api.Msg{took(1, 6, 1), took(1, 8, 1), took(2, 7, 1), took(2, 8, 1), took(1, 7, 0), took(1, 7, 5), took(1, 7, 17), ack(7, 1), ack(7, 3), put(1, 7, 0, "")} {
		b.ignores(api.Addr{Node: 1}, m)
	}
	b.coord(ack(7, 2))
	b.sink(took(1, 7, 3))
	if l := b.x.Look(); l.ChunksAcked != 2 || l.PiecesAcked != 3 {
		t.Fatalf("Look: %+v", l)
	}
	for _, m := range []api.Msg{ack(7, 2), ack(7, 1), ack(7, 0)} {
		b.ignores(api.Addr{}, m)
	}
	for _, m := range []api.Msg{took(1, 7, 3), took(1, 7, 2)} {
		b.ignores(api.Addr{Node: 1}, m)
	}
}

// What ends a job: Gone and Recorded, as answers to its requests; the sink's Refused, of just its job and badge.
func TestP19_4Drops(t *testing.T) {
	l := stands(t)
	for _, name := range []string{"beating", "done"} {
		n := l[name].w.way.Number
		b := l[name].clone()
		b.ignores(api.Addr{}, bare(api.MsgGone, 5, n-1))
		b.ignores(api.Addr{}, bare(api.MsgGone, 5, n+1))
		b.ignores(api.Addr{}, bare(api.MsgGone, 6, n))
		b.ignores(api.Addr{Node: 1}, bare(api.MsgGone, 5, n))
		b.coord(bare(api.MsgGone, 5, n))
		b.dropped(n + 1)
	}
	b := l["beating"].clone()
	b.ignores(api.Addr{}, bare(api.MsgRecorded, 5, 2)) // it fits no Beat
	b = l["done"].clone()
	b.ignores(api.Addr{}, bare(api.MsgAlive, 5, 3))
	b.ignores(api.Addr{}, bare(api.MsgRecorded, 5, 2))
	b.coord(bare(api.MsgRecorded, 5, 3))
	b.dropped(4)
	for _, name := range []string{"offered", "beating", "acked", "done", "lapsed", "hailing with a job"} {
		b := l[name].clone()
		for _, m := range []api.Msg{refused(2, 7), refused(1, 6), refused(1, 8), refused(8, top)} {
			b.ignores(api.Addr{Node: 1}, m)
		}
		b.ignores(api.Addr{}, refused(1, 7))
		b.sink(refused(1, 7))
		if l := b.x.Look(); l.Job != 0 || l.Badge != 0 {
			t.Fatalf("%s: Look: %+v", name, l)
		}
		b.ignores(api.Addr{Node: 1}, refused(1, 7))
	}
	// A request of a job that was dropped goes on, and its answer is none to the next job.
	b = l["dropped"].clone()
	b.ticksAndSays()
	b.ticksAndSays(beat(5, 2, 7))
	b.coord(bare(api.MsgAlive, 5, 2))
	b.says(poll(5, 3))
	b.ignores(api.Addr{}, bare(api.MsgGone, 5, 2))
	b.coord(offer(5, 3, 1, 9, sample()))
	b.ignores(api.Addr{}, bare(api.MsgGone, 5, 2))
	b.ignores(api.Addr{Node: 1}, refused(1, 7))
	b = l["dropped"].clone()
	b.coord(bare(api.MsgGone, 5, 2))
	b.says(poll(5, 3))
}

// dropped holds that it has no job, and asks for one with that number.
func (b *both) dropped(number int) {
	b.t.Helper()
	if l := b.x.Look(); l != (api.Look{Life: 1, Session: 5}) {
		b.t.Fatalf("Look: %+v", l)
	}
	b.says(poll(5, number))
}

// A job of the same badge may be offered anew, when the first one was dropped: it begins at its beginning.
func TestP19_4Anew(t *testing.T) {
	b := working(t, config(), sample())
	b.step()
	b.tell()
	b.coord(bare(api.MsgGone, 5, 2))
	b.step()
	b.coord(offer(5, 3, 1, 7, rising(9, "emit r0")))
	if l := b.x.Look(); l.Job != 1 || l.Badge != 7 || l.Fuel != 0 || l.Chunks != 0 || l.Pieces != 1 || l.PiecesSaid != 0 {
		t.Fatalf("Look: %+v", l)
	}
	b.says(chunk(7, 0, "1p0"), chunk(7, 1, "1p1"), put(1, 7, 0, ""), beat(5, 4, 7))
	b.tells(emitted(1, 7, 0, "1p0"), emitted(1, 7, 1, "1p1"))
}
