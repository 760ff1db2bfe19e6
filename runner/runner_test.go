package runner_test

import (
	"fmt"
	"math"
	"testing"

	"gaffer/api"
	"gaffer/interp"
	"gaffer/prog"
	"gaffer/runner"
)

// far are numbers outside all bounds.
var far = []int{-1, -2, -top, top + 1, 2 * top, 2*top + 1, math.MinInt, math.MinInt + 1, math.MaxInt - 1, math.MaxInt}

func TestNumbers(t *testing.T) {
	if api.ErrRunnerConfig != 190 || api.MaxRunners != 8 || api.MaxResend != 16 || api.MaxWindow != 8 || api.MaxQuantum != 64 || api.MaxNumber != top ||
		api.NodeCoord != 0 || api.NodeSink != 1 || api.NodeRunner != 2 || api.EvEmitted != 10 || api.EvWrote != 11 || api.EvEnded != 12 {
		t.Error("package api is not the one that was given")
	}
}

// The chapter's examples, row by row.
func TestExamples(t *testing.T) {
	c := config()
	for _, x := range [][2]int{{1, 1}, {0, 0}} {
		if r, e := runner.New(c, x[0], x[1]); r != nil || e != api.ErrRunnerConfig {
			t.Errorf("New(c, %d, %d): %v", x[0], x[1], e)
		}
	}
	b := made(t, c, 0, 1)
	b.says(hello())
	b.says()
	b.ticksAndSays()
	b.ticksAndSays(hello())
	b.coord(welcome(5))
	b.says(poll(5, 1))
	b.coord(offer(5, 1, 1, 7, sample()))
	b.says(chunk(7, 0, "1p0"), put(1, 7, 0, ""), put(1, 7, 1, "1p0"), beat(5, 2, 7))
	b.tells(emitted(1, 7, 0, "1p0"), wrote(1, 7, 1, "1p0"), ended(1, 7, 1, one))
	with := b.clone()
	b.coord(ack(7, 1))
	b.sink(took(1, 7, 2))
	b.coord(bare(api.MsgAlive, 5, 2))
	b.says(done(5, 3, 7, 1, one))
	b.coord(bare(api.MsgRecorded, 5, 3))
	if l := b.x.Look(); l != (api.Look{Life: 1, Session: 5}) {
		t.Errorf("Look: %+v", l)
	}
	b.says(poll(5, 4))
	with.ignores(api.Addr{}, refused(1, 7))
	with.sink(refused(1, 7))
	if l := with.x.Look(); l != (api.Look{Life: 1, Session: 5, Waits: 2, Busy: true, Timer: 2}) {
		t.Errorf("Look: %+v", l)
	}
	c.Window = 2
	b = working(t, c, sample())
	b.says(chunk(7, 0, "1p0"), put(1, 7, 0, ""), put(1, 7, 1, "1p0"), beat(5, 2, 7))
	if l := b.x.Look(); l.Fuel != 3 || l.Over {
		t.Errorf("Look: %+v", l)
	}
}

// Every number of a config that is looked at, each at its bounds; the others may be anything.
func TestP19_1Config(t *testing.T) {
	numbers := []struct {
		of   func(c *api.Config) *int
		most int
	}{
		{func(c *api.Config) *int { return &c.Runners }, 8},
		{func(c *api.Config) *int { return &c.Resend }, 16},
		{func(c *api.Config) *int { return &c.Window }, 8},
		{func(c *api.Config) *int { return &c.Quantum }, 64},
	}
	for i, x := range numbers {
		for n := -2; n < 70; n++ {
			c := config()
			*x.of(&c) = n
			refuses(t, c, 0, 1, n < 1 || n > x.most)
		}
		for _, n := range far {
			c := config()
			*x.of(&c) = n
			refuses(t, c, 0, 1, true)
			for _, slot := range []int{1, 7, 8, n - 1} {
				if i == 0 {
					refuses(t, c, slot, 1, true)
				}
			}
		}
	}
	for _, n := range append(far, 0, 1, 7) {
		c := config()
		c.Lease, c.Attempts, c.Block, c.Every, c.Half = n, n, n, n, n
		refuses(t, c, 0, 1, false)
	}
}

func refuses(t *testing.T, c api.Config, slot, life int, want bool) {
	t.Helper()
	r, e := runner.New(c, slot, life)
	if want && (r != nil || e != api.ErrRunnerConfig) || !want && (r == nil || e != api.OK) {
		t.Fatalf("New(%+v, %d, %d): %v, %v", c, slot, life, r, e)
	}
}

func TestP19_1SlotAndLife(t *testing.T) {
	for runners := 1; runners <= 8; runners++ {
		c := config()
		c.Runners = runners
		for slot := -2; slot < 10; slot++ {
			refuses(t, c, slot, 1, slot < 0 || slot >= runners)
			refuses(t, c, slot, top, slot < 0 || slot >= runners)
			refuses(t, c, slot, 0, true)
			refuses(t, c, slot, top+1, true)
		}
		for _, n := range far {
			refuses(t, c, n, 1, true)
			refuses(t, c, 0, n, true)
		}
	}
}

// A new one has neither a session nor a job, and speaks from its own address.
func TestP19_1Begins(t *testing.T) {
	c := config()
	c.Runners = 8
	for slot := range 8 {
		for _, life := range []int{1, 2, 300, top - 1, top} {
			b := made(t, c, slot, life)
			if l := b.x.Look(); l != (api.Look{Slot: slot, Life: life}) {
				t.Fatalf("Look: %+v", l)
			}
			b.tells()
			from := api.Addr{Node: 2 + slot, Life: life}
			said(t, b.step(), from, hello())
			b.coord(welcome(9))
			said(t, b.step(), from, poll(9, 1))
			b.coord(offer(9, 1, 8, top, sample()))
			said(t, b.step(), from, chunk(top, 0, "1p0"), put(8, top, 0, ""), put(8, top, 1, "1p0"), beat(9, 2, top))
			b.tells(emitted(8, top, 0, "1p0"), wrote(8, top, 1, "1p0"), ended(8, top, 1, one))
		}
	}
}

// A tick reaches the caller with a job and without one, and both senders of a job; each of the three has a timer of its own.
func TestP19_2Tick(t *testing.T) {
	for resend := 1; resend <= 16; resend++ {
		c := config()
		c.Resend = resend
		b := made(t, c, 0, 1)
		b.says(hello())
		for range 3 {
			for range resend - 1 {
				b.ticksAndSays()
			}
			b.ticksAndSays(hello())
		}
		b.coord(welcome(5))
		b.says(poll(5, 1))
		for range resend - 1 {
			b.ticksAndSays()
		}
		b.ticksAndSays(poll(5, 1))
		b.coord(offer(5, 1, 1, 7, sample()))
		b.says(chunk(7, 0, "1p0"), put(1, 7, 0, ""), put(1, 7, 1, "1p0"), beat(5, 2, 7))
		for left := resend; left > 0; left-- {
			if l := b.x.Look(); l.Timer != left || l.ChunksTimer != left || l.PiecesTimer != left {
				t.Fatalf("Look: %+v", l)
			}
			b.tick()
		}
		b.tick() // below 0 no timer goes
		b.says(chunk(7, 0, "1p0"), put(1, 7, 0, ""), put(1, 7, 1, "1p0"), beat(5, 2, 7))
		b.says()
		for range resend - 1 {
			b.ticksAndSays()
		}
		b.coord(ack(7, 1))
		b.ticksAndSays(put(1, 7, 0, ""), put(1, 7, 1, "1p0"), beat(5, 2, 7))
	}
}

// The timers of the log, of the artefact and of the caller run beside each other.
func TestP19_2Apart(t *testing.T) {
	c := config()
	c.Resend, c.Quantum = 4, 1
	b := working(t, c, packed("fuel 9; write r0; emit r0; halt"))
	b.says(put(1, 7, 0, ""), put(1, 7, 1, "0"), beat(5, 2, 7))
	b.ticksAndSays(chunk(7, 0, "0"))
	b.ticksAndSays()
	b.coord(bare(api.MsgAlive, 5, 2))
	b.says(beat(5, 3, 7))
	b.ticksAndSays()
	b.ticksAndSays(put(1, 7, 0, ""), put(1, 7, 1, "0"))
	b.ticksAndSays(chunk(7, 0, "0"))
	b.ticksAndSays(beat(5, 3, 7))
	b.ticksAndSays()
	b.ticksAndSays(put(1, 7, 0, ""), put(1, 7, 1, "0"))
}

// Quantum instructions at most, of any Quantum.
func TestP19_3Quantum(t *testing.T) {
	for quantum := 1; quantum <= 64; quantum++ {
		c := config()
		c.Quantum = quantum
		b := working(t, c, packed("fuel 150; jump 0"))
		b.ignores(api.Addr{}, offer(5, 1, 2, 8, sample())) // by hearing it does nothing
		if l := b.x.Look(); l.Fuel != 0 {
			t.Fatalf("Look: %+v", l)
		}
		for n := quantum; n < 150; n += quantum {
			b.step()
			if l := b.x.Look(); l.Fuel != n || l.Over || l.Result != (api.Result{}) {
				t.Fatalf("Quantum %d: Look: %+v", quantum, l)
			}
			b.tells()
		}
		b.step()
		if l := b.x.Look(); l.Fuel != 150 || !l.Over || l.Result != (api.Result{Code: api.TrapFuel}) {
			t.Fatalf("Quantum %d: Look: %+v", quantum, l)
		}
		b.tells(ended(1, 7, 0, api.Result{Code: api.TrapFuel}))
		b.step()
		b.tells()
	}
}

// The machine stands while the log has no room; what is acked lets it go on.
func TestP19_3LogRoom(t *testing.T) {
	for window := 1; window <= 8; window++ {
		c := config()
		c.Window, c.Quantum = window, 64
		b := working(t, c, packed("fuel 1024; emit r0; jump 0"))
		if window > 1 {
			b.says(concat(chunksOf(7, 0, window), put(1, 7, 0, ""), beat(5, 2, 7))...)
		} else {
			b.says(put(1, 7, 0, ""), beat(5, 2, 7)) // the claim leaves no room
			b.sink(took(1, 7, 1))
			b.says(chunk(7, 0, "0"))
		}
		if l := b.x.Look(); l.Fuel != 2*window-1 || l.Chunks != window || l.ChunksSaid != window || l.ChunksAcked != 0 {
			t.Fatalf("window %d: Look: %+v", window, l)
		}
		b.says()
		for have := window; have < 32; have++ {
			b.coord(ack(7, have-window+1))
			b.says(chunk(7, have, "0"))
			if l := b.x.Look(); l.Fuel != 2*have+1 || l.Over {
				t.Fatalf("window %d: Look: %+v", window, l)
			}
		}
		b.coord(ack(7, 32))
		b.sink(took(1, 7, 1))
		b.coord(bare(api.MsgAlive, 5, 2))
		b.says(done(5, 3, 7, 32, api.Result{Code: api.TrapChunks}))
	}
}

// And while the artefact has none: the claim counts.
func TestP19_3ArtefactRoom(t *testing.T) {
	for window := 1; window <= 8; window++ {
		c := config()
		c.Window, c.Quantum = window, 64
		b := working(t, c, packed("fuel 1024; write r0; jump 0"))
		b.says(concat(piecesOf(1, 7, 0, window), beat(5, 2, 7))...)
		if l := b.x.Look(); l.Fuel != max(0, 2*(window-1)-1) || l.Pieces != window || l.PiecesSaid != window || l.PiecesAcked != 0 {
			t.Fatalf("window %d: Look: %+v", window, l)
		}
		b.says()
		for have := window; have < 17; have++ {
			b.sink(took(1, 7, have-window+1))
			b.says(put(1, 7, have, "0"))
			if l := b.x.Look(); l.Fuel != 2*have-1 || l.Over {
				t.Fatalf("window %d: Look: %+v", window, l)
			}
		}
		b.sink(took(1, 7, 17))
		b.coord(bare(api.MsgAlive, 5, 2))
		b.says(done(5, 3, 7, 0, api.Result{Code: api.TrapPieces}))
		b.tell()
	}
}

// Without room it does no instruction at all, also none that would tell nothing, nor one that would tell it the other way.
func TestP19_3RoomOfBoth(t *testing.T) {
	c := config()
	c.Window = 2
	b := working(t, c, packed("fuel 20; write r0; set r1 1p0; emit r0; emit r0; set r1 1p0; halt"))
	b.says(put(1, 7, 0, ""), put(1, 7, 1, "0"), beat(5, 2, 7))
	b.says()
	if l := b.x.Look(); l.Fuel != 1 {
		t.Fatalf("Look: %+v", l)
	}
	b.sink(took(1, 7, 1))
	b.says(chunk(7, 0, "0"), chunk(7, 1, "0"))
	if l := b.x.Look(); l.Fuel != 4 {
		t.Fatalf("Look: %+v", l)
	}
	b.sink(took(1, 7, 2))
	b.says()
	if l := b.x.Look(); l.Fuel != 4 || l.Over {
		t.Fatalf("Look: %+v", l)
	}
	b.coord(ack(7, 1))
	b.says()
	if l := b.x.Look(); l.Fuel != 6 || !l.Over {
		t.Fatalf("Look: %+v", l)
	}
	b.tells(wrote(1, 7, 1, "0"), emitted(1, 7, 0, "0"), emitted(1, 7, 1, "0"), ended(1, 7, 2, api.Result{}))
}

func chunksOf(badge, from, to int) []api.Msg {
	var l []api.Msg
	for i := from; i < to; i++ {
		l = append(l, chunk(badge, i, "0"))
	}
	return l
}

func piecesOf(job, badge, from, to int) []api.Msg {
	var l []api.Msg
	for i := from; i < to; i++ {
		s := "0"
		if i == 0 {
			s = ""
		}
		l = append(l, put(job, badge, i, s))
	}
	return l
}

func concat(l []api.Msg, more ...api.Msg) []api.Msg { return append(l, more...) }

// Chunks are said ahead of pieces, these ahead of the request, in whatever order they were made.
func TestP19_3Order(t *testing.T) {
	c := config()
	c.Window, c.Quantum = 8, 64
	b := working(t, c, rising(16, "write r0", "emit r0", "write r0"))
	b.says(chunk(7, 0, "1p0"), chunk(7, 1, "1p1"), chunk(7, 2, "3p0"),
		put(1, 7, 0, ""), put(1, 7, 1, "1p0"), put(1, 7, 2, "1p0"), put(1, 7, 3, "1p1"), put(1, 7, 4, "1p1"), put(1, 7, 5, "3p0"), put(1, 7, 6, "3p0"), beat(5, 2, 7))
	b.tells(wrote(1, 7, 1, "1p0"), emitted(1, 7, 0, "1p0"), wrote(1, 7, 2, "1p0"),
		wrote(1, 7, 3, "1p1"), emitted(1, 7, 1, "1p1"), wrote(1, 7, 4, "1p1"),
		wrote(1, 7, 5, "3p0"), emitted(1, 7, 2, "3p0"), wrote(1, 7, 6, "3p0"), ended(1, 7, 3, api.Result{Code: api.TrapFuel}))
	// What is acked is not said anew.
	b.coord(ack(7, 2))
	b.sink(took(1, 7, 5))
	b.ticksAndSays()
	b.ticksAndSays(chunk(7, 2, "3p0"), put(1, 7, 5, "3p0"), put(1, 7, 6, "3p0"), beat(5, 2, 7))
}

// What is asked: one thing at a time, and which one is chosen in the Step that says it.
func TestP19_3Asks(t *testing.T) {
	b := working(t, config(), sample())
	b.step()
	b.coord(ack(7, 1))
	b.says() // the Beat is under way
	b.coord(bare(api.MsgAlive, 5, 2))
	b.says(beat(5, 3, 7)) // not all of the artefact is acked
	b.sink(took(1, 7, 1))
	b.coord(bare(api.MsgAlive, 5, 3))
	b.says(beat(5, 4, 7))
	b.sink(took(1, 7, 2)) // all is acked, but a Beat is under way
	b.ticksAndSays()
	b.ticksAndSays(beat(5, 4, 7))
	b.coord(bare(api.MsgAlive, 5, 4))
	b.says(done(5, 5, 7, 1, one))
	b.ticksAndSays()
	b.ticksAndSays(done(5, 5, 7, 1, one))

	b = working(t, config(), sample())
	b.step()
	b.sink(took(1, 7, 2))
	b.coord(bare(api.MsgAlive, 5, 2))
	b.says(beat(5, 3, 7)) // not all of the log is
	b.coord(ack(7, 1), bare(api.MsgAlive, 5, 3))
	b.says(done(5, 4, 7, 1, one))

	// All that there is is acked, but the machine is not over.
	c := config()
	c.Quantum = 2
	b = working(t, c, sample())
	b.says(chunk(7, 0, "1p0"), put(1, 7, 0, ""), beat(5, 2, 7))
	b.coord(ack(7, 1))
	b.sink(took(1, 7, 1))
	b.coord(bare(api.MsgAlive, 5, 2))
	before := b.clone()
	b.says(put(1, 7, 1, "1p0"), beat(5, 3, 7)) // over, but for the piece
	b.sink(took(1, 7, 2))
	b.coord(bare(api.MsgAlive, 5, 3))
	b.says(done(5, 4, 7, 1, one))
	if l := before.x.Look(); l.Over || l.Chunks != l.ChunksAcked || l.Pieces != l.PiecesAcked {
		t.Fatalf("Look: %+v", l)
	}

	b = working(t, c, packed("fuel 9; jump 1; jump 2; jump 3; jump 4; halt"))
	b.says(put(1, 7, 0, ""), beat(5, 2, 7))
	b.sink(took(1, 7, 1))
	b.coord(bare(api.MsgAlive, 5, 2))
	b.says(beat(5, 3, 7))
	b.coord(bare(api.MsgAlive, 5, 3))
	b.says(done(5, 4, 7, 0, api.Result{})) // it ended in this Step, and nothing is to be waited for
}

// A session that lapsed is asked for anew, with the job or without it; the job goes on.
func TestP19_3Lapsed(t *testing.T) {
	b := polling(t, config())
	b.coord(bare(api.MsgStale, 5, 1))
	b.says(hello())
	b.coord(welcome(6))
	b.says(poll(6, 1))
	b.coord(offer(6, 1, 1, 7, sample()))
	b.step()
	b.coord(ack(7, 1), bare(api.MsgStale, 6, 2))
	if l := b.x.Look(); l.Job != 1 || l.Session != 0 || l.Busy {
		t.Fatalf("Look: %+v", l)
	}
	b.says(hello())
	b.sink(took(1, 7, 2))
	b.ticksAndSays()
	b.ticksAndSays(hello())
	b.ignores(api.Addr{}, welcome(6)) // one that was held back
	b.coord(welcome(9))
	b.says(done(9, 1, 7, 1, one))
	b.coord(bare(api.MsgStale, 9, 1))
	b.says(hello())
	b.coord(welcome(12))
	b.says(done(12, 1, 7, 1, one))
	b.coord(bare(api.MsgRecorded, 12, 1))
	b.says(poll(12, 2))
}

// Whatever a program tells: the longest texts, the most of them, each trap.
func TestP19_3EveryTrap(t *testing.T) {
	for code, text := range map[int]string{
		api.TrapNone:   "fuel 9; set r0 1p-1074; emit r0; write r0",
		api.TrapFuel:   "fuel 9; emit r0; jump 0",
		api.TrapStack:  "fuel 99; emit r0; push r0; jump 1",
		api.TrapEmpty:  "fuel 9; write r0; pop r1",
		api.TrapJump:   "fuel 9; emit r0; set r0 nan; goto r0",
		api.TrapChunks: "fuel 1024; set r0 -9007199254740991p-1074; emit r0; jump 1",
		api.TrapPieces: "fuel 1024; set r0 -9007199254740991p-1074; write r0; jump 1",
		api.TrapFail:   "fuel 9; emit r0; fail r0",
	} {
		for _, c := range []api.Config{{Runners: 1, Resend: 1, Window: 1, Quantum: 1}, {Runners: 1, Resend: 3, Window: 8, Quantum: 64}, config()} {
			bytes := packed(text)
			p, _ := prog.Unpack(bytes)
			whole, _ := interp.Whole(p)
			b := working(t, c, bytes)
			chunks, pieces := []string{}, []string{}
			for number := 2; ; number++ {
				l := messages(t, b.step())
				for _, m := range l {
					switch m.Kind {
					case api.MsgChunk:
						chunks = append(chunks, m.Text)
						b.coord(ack(7, len(chunks)))
					case api.MsgPut:
						pieces = append(pieces, m.Text)
						b.sink(took(1, 7, len(pieces)))
					}
				}
				last := l[len(l)-1]
				if last.Kind == api.MsgDone {
					if last != done(5, number, 7, len(chunks), whole.Result) || last.Result.Code != code {
						t.Fatalf("%s: %+v, not %+v", text, last, whole.Result)
					}
					break
				}
				b.coord(bare(api.MsgAlive, 5, number))
			}
			if fmt.Sprint(chunks) != fmt.Sprint(whole.Chunks) || fmt.Sprint(pieces) != fmt.Sprint(append([]string{""}, whole.Pieces...)) {
				t.Fatalf("%s: %q, %q, not %q, %q", text, chunks, pieces, whole.Chunks, whole.Pieces)
			}
		}
	}
}

// What is told: the last act stands ahead of the end that it makes; of a job that was dropped what it did; of each job its own.
func TestP19_5Told(t *testing.T) {
	c := config()
	c.Quantum = 1
	b := working(t, c, packed("fuel 2; emit r0; emit r0; emit r0"))
	b.tells()
	b.step()
	b.tells(emitted(1, 7, 0, "0"))
	b.tells()
	b.step()
	b.tells(emitted(1, 7, 1, "0"), ended(1, 7, 2, api.Result{Code: api.TrapFuel}))
	b.step()
	b.tells()

	b = working(t, c, packed("fuel 9; write r0; emit r0; emit r0"))
	b.step()
	b.step()
	b.sink(refused(1, 7))
	b.tells(wrote(1, 7, 1, "0"), emitted(1, 7, 0, "0"))
	b.coord(bare(api.MsgGone, 5, 2))
	b.says(poll(5, 3))
	b.coord(offer(5, 3, 4, 11, sample()))
	b.step()
	b.step()
	b.coord(bare(api.MsgGone, 5, 4))
	b.says(poll(5, 5))
	b.coord(offer(5, 5, 2, 12, sample()))
	for range 9 {
		b.step()
	}
	b.tells(emitted(4, 11, 0, "1p0"), emitted(2, 12, 0, "1p0"), wrote(2, 12, 1, "1p0"), ended(2, 12, 1, one))
	b.tells()
}

// Told forgets; whoever asks later is told just what came since, and nothing else changes by it.
func TestP19_5Forgets(t *testing.T) {
	c := config()
	c.Quantum, c.Window = 1, 8
	asked, not := working(t, c, rising(20, "emit r0", "write r0")), working(t, c, rising(20, "emit r0", "write r0"))
	var l []api.Event
	for range 24 {
		asked.step()
		not.step()
		l = append(l, asked.tell()...)
		asked.coord(ack(7, asked.w.job.log.said))
		not.coord(ack(7, not.w.job.log.said))
		asked.sink(took(1, 7, asked.w.job.artefact.said))
		not.sink(took(1, 7, not.w.job.artefact.said))
	}
	if asked.x.Look() != not.x.Look() || !asked.x.Look().Over {
		t.Fatalf("%+v, and %+v", asked.x.Look(), not.x.Look())
	}
	not.tells(l...)
}

// Look tells each field of its own, at numbers that are unlike.
func TestP19_6Look(t *testing.T) {
	c := config()
	c.Runners, c.Resend, c.Window, c.Quantum = 8, 16, 8, 64
	b := made(t, c, 6, 400)
	b.step()
	b.tick()
	if l := b.x.Look(); l != (api.Look{Slot: 6, Life: 400, Busy: true, Timer: 15}) {
		t.Fatalf("Look: %+v", l)
	}
	b.coord(welcome(55))
	b.step()
	b.tick()
	if l := b.x.Look(); l != (api.Look{Slot: 6, Life: 400, Session: 55, Waits: 1, Busy: true, Timer: 15}) {
		t.Fatalf("Look: %+v", l)
	}
	b.coord(offer(55, 1, 3, 77, packed("fuel 1024; emit r0; emit r0; emit r0; write r0; write r0; emit r0; emit r0; write r0; write r0; set r0 1p0")))
	if l := b.x.Look(); l != (api.Look{Slot: 6, Life: 400, Session: 55, Job: 3, Badge: 77, Pieces: 1}) {
		t.Fatalf("Look: %+v", l)
	}
	b.step()
	b.tick()
	b.coord(ack(77, 2))
	b.sink(took(3, 77, 4))
	want := api.Look{Slot: 6, Life: 400, Session: 55, Waits: 2, Busy: true, Timer: 15, Job: 3, Badge: 77, Fuel: 10, Over: true, Result: one,
		Chunks: 5, ChunksAcked: 2, ChunksSaid: 5, ChunksTimer: 15, Pieces: 5, PiecesAcked: 4, PiecesSaid: 5, PiecesTimer: 15}
	if l := b.x.Look(); l != want {
		t.Fatalf("Look: %+v", l)
	}
	b.coord(ack(77, 5))
	b.tick()
	want.ChunksAcked, want.ChunksTimer, want.PiecesTimer, want.Timer = 5, 0, 14, 14
	if l := b.x.Look(); l != want {
		t.Fatalf("Look: %+v", l)
	}
	b.sink(took(3, 77, 5))
	b.coord(bare(api.MsgAlive, 55, 2))
	want.PiecesAcked, want.PiecesTimer, want.Timer, want.Waits, want.Busy = 5, 0, 0, 0, false
	if l := b.x.Look(); l != want {
		t.Fatalf("Look: %+v", l)
	}
}
