package cluster_test

import (
	"math"
	"slices"
	"strings"
	"testing"

	"gaffer/api"
	"gaffer/wire"
)

// kinds of what is under way, by the places.
func (b *both) kinds() []int {
	b.t.Helper()
	var out []int
	for _, d := range b.x.Bag() {
		m, e := wire.Decode(d.Data)
		if e != api.OK {
			b.t.Fatalf("under way: %q", d.Data)
		}
		out = append(out, m.Kind)
	}
	return out
}

// underWay holds the kinds of what is under way against these.
func (b *both) underWay(want ...int) {
	b.t.Helper()
	if got := b.kinds(); !slices.Equal(got, want) {
		b.t.Fatalf("under way: %v, not %v", got, want)
	}
}

func encoded(t *testing.T, m api.Msg) string {
	t.Helper()
	s, e := wire.Encode(m)
	if e != api.OK {
		t.Fatalf("Encode(%+v): %v", m, e)
	}
	return s
}

// two is a config with two runners.
func two() api.Config {
	c := config()
	c.Runners = 2
	return c
}

// working is a fleet whose first runner holds the job 1 of such a program, under the badge behind those that are sessions, and has said nothing of it; nothing is under way.
func working(t *testing.T, c api.Config, program string) *both {
	t.Helper()
	b := made(t, c)
	b.do(submits(program), submitted(1))
	b.does(rounds(4), granted(1, c.Runners+1, runnerAt(0, 1)))
	if l, _ := b.x.Runner(0); l.Badge != c.Runners+1 || l.Job != 1 || l.Fuel != 0 || len(b.x.Bag()) > 0 {
		t.Fatalf("%+v", l)
	}
	return b
}

func TestP20_2Kinds(t *testing.T) {
	b := working(t, config(), sample())
	for _, kind := range append(far, 0, 13, 14, 100) {
		b.refuses(api.ErrClusterStep, api.Step{Kind: kind}, api.Step{Kind: kind, A: 2, K: 1, X: 1, Text: plain()}, api.Step{Kind: kind, A: -1, K: -1, X: -1})
	}
}

// Fields that a kind does not have are not looked at: whatever stands in them, the step is the same.
func TestP20_2Fields(t *testing.T) {
	has := map[int]string{1: "T", 2: "A", 3: "A", 4: "K", 5: "K", 6: "K", 7: "AT", 8: "A", 9: "A", 10: "KX", 11: "", 12: "K"}
	l := []api.Step{
		submits(plain()), submits("x"), ticks(0), ticks(2), ticks(9), stepsOf(2), stepsOf(-1), delivers(0), delivers(99), drops(0), drops(-1), dups(0), dups(99),
		injects(2, ""), injects(0, "\x01"), crashes(0), crashes(3), crashes(1), starts(3), starts(2), starts(0), cuts(1, 5), cuts(-1, 0), round(), settles(2), settles(0),
	}
	b := working(t, two(), sample())
	b.do(stepsOf(2), emitted(runnerAt(0, 1), 1, 3, 0, "1p0"), wrote(runnerAt(0, 1), 1, 3, 1, "1p0"))
	b.do(crashes(3), down(runnerAt(1, 1)))
	for _, s := range l {
		for _, n := range append([]int{1, 2, 3, 129, 257}, far...) {
			o := s
			for i, at := range []*int{&o.A, &o.K, &o.X} {
				if !strings.ContainsRune(has[s.Kind], rune("AKX"[i])) {
					*at = n
				}
			}
			if !strings.Contains(has[s.Kind], "T") {
				o.Text = []string{"", "x", "\x01", plain()}[n&3]
			}
			if s.Kind == api.StStart && s.A == 0 {
				o = s
			}
			one, other := b.clone(), b.clone()
			if x, y := one.step(s), other.step(o); !sameEvents(x, y) {
				t.Fatalf("%+v: %+v; %+v: %+v", s, x, o, y)
			}
			if !slices.Equal(one.x.Bag(), other.x.Bag()) || !slices.Equal(one.x.Disk(), other.x.Disk()) {
				t.Fatalf("%+v, and %+v", s, o)
			}
			if n == 3 {
				alike(one, other)
			}
		}
	}
	// A runner's start has no cut: neither is it refused by one, nor is one set by it.
	b.do(api.Step{Kind: api.StStart, A: 3, K: -1, X: 999}, up(runnerAt(1, 2)))
	b.do(crashes(3), down(runnerAt(1, 2)))
	b.do(api.Step{Kind: api.StStart, A: 3, K: 1, X: 5}, up(runnerAt(1, 3)))
	b.do(submits(plain()), submitted(2))
}

func TestP20_2Submit(t *testing.T) {
	b := made(t, config())
	b.refuses(api.ErrCoordProgram, submits(""), submits("x"), submits(plain()[1:]), submits(plain()+"\x00"), submits(strings.Repeat("x", 1025)))
	for job := 1; job <= 8; job++ {
		b.do(submits(plain()), submitted(job))
		b.underWay()
		if v, _ := b.x.View(); len(v.Jobs) != job || v.Jobs[job-1].Program != plain() {
			t.Fatalf("%+v", v)
		}
	}
	b.refuses(api.ErrCoordFull, submits(plain()), submits(sample()))
	b.refuses(api.ErrCoordProgram, submits("x"))
	b.do(crashes(0), down(api.Addr{}))
	b.refuses(api.ErrClusterDown, submits(plain()), submits("x"))
}

func TestP20_2Tick(t *testing.T) {
	c := two()
	c.Lease, c.Attempts = 3, 2
	b := made(t, c)
	b.refuses(api.ErrClusterNode, ticks(-1), ticks(4), ticks(math.MaxInt), ticks(math.MinInt), ticks(1<<32))
	b.does([]api.Step{ticks(0), ticks(1), ticks(2), ticks(3)})
	b.underWay()
	// A runner's tick brings its Hello nearer to being said anew: of the other one it does not.
	b.does([]api.Step{stepsOf(2), stepsOf(3), ticks(2), ticks(2), ticks(3), ticks(1), ticks(1), ticks(0), stepsOf(2), stepsOf(3)})
	b.underWay(1, 1, 1)
	b.does([]api.Step{drops(2), submits(plain()), delivers(0), delivers(0), delivers(0), delivers(0), stepsOf(2)}, submitted(1))
	b.do(delivers(0), granted(1, 3, runnerAt(0, 1)))
	// The coordinator's tick has leases run out.
	b.does([]api.Step{ticks(0), ticks(2), ticks(1), ticks(0)})
	if l, _ := b.x.Leases(); l[0].Left != 1 {
		t.Fatalf("%+v", l)
	}
	b.do(ticks(0), expired(1, 3))
	b.do(crashes(3), down(runnerAt(1, 1)))
	b.do(crashes(0), down(api.Addr{}))
	b.refuses(api.ErrClusterDown, ticks(0), ticks(3))
	b.do(ticks(2))
	b.do(ticks(1))
}

func TestP20_2Step(t *testing.T) {
	b := made(t, two())
	b.refuses(api.ErrClusterNode, stepsOf(-1), stepsOf(4), stepsOf(math.MaxInt), stepsOf(math.MinInt), stepsOf(1<<32))
	b.does([]api.Step{stepsOf(0), stepsOf(1)})
	b.underWay()
	b.do(stepsOf(3))
	want := []api.Datagram{{Num: 1, From: runnerAt(1, 1), Data: encoded(t, api.Msg{Kind: api.MsgHello})}}
	if got := b.x.Bag(); !slices.Equal(got, want) {
		t.Fatalf("%+v", got)
	}
	b.do(stepsOf(3)) // nothing is due
	b.underWay(1)
	b.do(stepsOf(2))
	b.underWay(1, 1)
	b.do(crashes(2), down(runnerAt(0, 1)))
	b.do(crashes(0), down(api.Addr{}))
	b.refuses(api.ErrClusterDown, stepsOf(2), stepsOf(0))
	b.do(stepsOf(1))
	b.do(stepsOf(3))
}

// What a runner says in one Step: the chunks, the pieces, the request, in this order, each to whom it is for.
func TestP20_2Says(t *testing.T) {
	b := working(t, config(), sample())
	b.underWay()
	who := runnerAt(0, 1)
	b.do(stepsOf(2), emitted(who, 1, 2, 0, "1p0"), wrote(who, 1, 2, 1, "1p0"))
	b.underWay(5, 6, 6, 3)
	last := b.x.Bag()[0].Num
	for i, d := range b.x.Bag() {
		if d.From != who || d.To != (api.Addr{Node: []int{0, 1, 1, 0}[i]}) || d.Num != last+i {
			t.Fatalf("%+v", d)
		}
	}
	// Delivered in any order: what is said to them stands at the end.
	b.do(delivers(2)) // the piece ahead of the claim: it is not admitted
	b.underWay(5, 6, 3, 15)
	b.do(delivers(1), admitted(1, 2, 0, ""))
	b.do(delivers(0), stored(1, 2, 0, "1p0"))
	b.underWay(3, 15, 15, 14)
	b.do(delivers(0))
	b.underWay(15, 15, 14, 11)
	for i, d := range b.x.Bag() {
		if d.To != who || d.From != (api.Addr{Node: []int{1, 1, 0, 0}[i]}) {
			t.Fatalf("%+v", d)
		}
	}
}

func TestP20_2Places(t *testing.T) {
	b := made(t, two())
	for _, kind := range []int{api.StDeliver, api.StDrop, api.StDup} {
		for _, k := range append([]int{0, 1}, far...) {
			b.refuses(api.ErrNetPlace, api.Step{Kind: kind, K: k})
		}
	}
	b.does([]api.Step{stepsOf(2), stepsOf(3)})
	for _, kind := range []int{api.StDeliver, api.StDrop, api.StDup} {
		for _, k := range append([]int{2, 3}, far...) {
			b.refuses(api.ErrNetPlace, api.Step{Kind: kind, K: k})
		}
	}
	num := func(want ...int) {
		t.Helper()
		var got []int
		for _, d := range b.x.Bag() {
			got = append(got, d.Num)
		}
		if !slices.Equal(got, want) {
			t.Fatalf("under way: %v, not %v", got, want)
		}
	}
	b.does([]api.Step{dups(0), dups(1), dups(2)})
	num(1, 2, 3, 4, 5)
	b.underWay(1, 1, 1, 1, 1)
	b.does([]api.Step{drops(1), drops(3)})
	num(1, 3, 4)
	b.do(delivers(1))
	num(1, 4, 6)
	b.underWay(1, 1, 7)
	b.does([]api.Step{drops(0), drops(0), drops(0)})
	num()
	if s, _ := b.x.Sessions(); len(s) != 1 || s[0].Slot != 0 || s[0].Session != 1 {
		t.Fatalf("%+v", s)
	}
}

// A datagram to a node that is down, or to a life that is over, is taken out, and nothing comes of it.
func TestP20_2Nobody(t *testing.T) {
	b := made(t, two())
	b.does([]api.Step{stepsOf(2), stepsOf(3), delivers(0), delivers(0), dups(0), dups(1)})
	b.underWay(7, 7, 7, 7)
	b.do(crashes(2), down(runnerAt(0, 1)))
	b.do(delivers(0))
	b.underWay(7, 7, 7)
	b.do(starts(2), up(runnerAt(0, 2)))
	b.do(delivers(1))
	b.underWay(7, 7)
	if l, _ := b.x.Runner(0); l != (api.Look{Life: 2}) {
		t.Fatalf("%+v", l)
	}
	b.do(delivers(0)) // the other one's
	if l, _ := b.x.Runner(1); l.Session != 2 {
		t.Fatalf("%+v", l)
	}
	b.does([]api.Step{drops(0), stepsOf(2), dups(0)})
	b.do(crashes(0), down(api.Addr{}))
	b.do(delivers(0))
	b.underWay(1)
	b.do(starts(0), up(api.Addr{}))
	b.do(delivers(0))
	b.underWay(7)
	b.do(delivers(0))
	if l, _ := b.x.Runner(0); l.Session != 5 || l.Life != 2 {
		t.Fatalf("%+v", l)
	}
}

func TestP20_2Inject(t *testing.T) {
	b := working(t, two(), sample())
	none := []string{"", "\x00", "\x11", "x", "\x01\x00", "\x02\x01", "\x06\x01\x03\x00\x01a", strings.Repeat("\x01", 2048), strings.Repeat("\x01", 2049), strings.Repeat("\x00", 1<<16)}
	for _, n := range append(far, 4, 5, 9) {
		b.refuses(api.ErrClusterNode, injects(n, ""), injects(n, "\x01"))
	}
	for _, state := range []string{"up", "down"} {
		if state == "down" {
			for _, n := range []int{0, 2, 3} {
				b.step(crashes(n))
			}
		}
		for n := range 4 {
			twin := b.clone()
			for _, s := range none {
				b.do(injects(n, s))
			}
			alike(twin, b)
			for kind := 1; kind <= 16; kind++ {
				b.refuses(api.ErrClusterBytes, injects(n, messageOf(t, kind)))
			}
		}
	}
}

// messageOf is a message of each kind, as bytes.
func messageOf(t *testing.T, kind int) string {
	t.Helper()
	m := api.Msg{Kind: kind}
	switch kind {
	case api.MsgHello:
		return encoded(t, m)
	case api.MsgPut, api.MsgTook, api.MsgRefused:
		m.Job, m.Badge = 1, 2
		return encoded(t, m)
	case api.MsgChunk, api.MsgAck:
		m.Badge = 2
		return encoded(t, m)
	}
	m.Session = 1
	if kind != api.MsgWelcome {
		m.Number = 1
	}
	switch kind {
	case api.MsgBeat, api.MsgDone:
		m.Badge = 2
	case api.MsgOffer:
		m.Job, m.Badge, m.Program = 1, 2, plain()
	}
	return encoded(t, m)
}

func TestP20_2Crash(t *testing.T) {
	b := working(t, two(), sample())
	b.refuses(api.ErrClusterNode, crashes(1), crashes(-1), crashes(4), crashes(math.MaxInt), crashes(math.MinInt), crashes(1<<32))
	b.do(crashes(2), down(runnerAt(0, 1)))
	b.refuses(api.ErrClusterDown, crashes(2))
	b.do(crashes(0), down(api.Addr{}))
	b.refuses(api.ErrClusterDown, crashes(0), crashes(2))
	b.refuses(api.ErrClusterNode, crashes(1))
	b.do(crashes(3), down(runnerAt(1, 1)))
	// All that they had in memory is gone.
	b.do(starts(0), up(api.Addr{}), shown(1, 3, api.Held, api.Result{}))
	if s, _ := b.x.Sessions(); len(s) > 0 {
		t.Fatalf("%+v", s)
	}
	b.do(starts(2), up(runnerAt(0, 2)))
	if l, _ := b.x.Runner(0); l != (api.Look{Life: 2}) {
		t.Fatalf("%+v", l)
	}
}

func TestP20_2Start(t *testing.T) {
	b := working(t, two(), sample())
	b.refuses(api.ErrClusterNode, starts(1), starts(-1), starts(4), starts(math.MaxInt), starts(math.MinInt), starts(1<<32))
	b.refuses(api.ErrClusterUp, starts(0), starts(2), starts(3), startsCut(-1, 0), startsCut(1, 129))
	// Each start of a runner is the next life, of the slot alone.
	for life := 1; life <= 5; life++ {
		b.do(crashes(3), down(runnerAt(1, life)))
		b.do(starts(3), up(runnerAt(1, life+1)))
	}
	b.do(crashes(2), down(runnerAt(0, 1)))
	b.do(starts(2), up(runnerAt(0, 2)))
	b.refuses(api.ErrClusterUp, starts(0), starts(2), starts(3))
	b.do(stepsOf(3))
	if d := b.x.Bag()[0]; d.From != runnerAt(1, 6) {
		t.Fatalf("%+v", d)
	}
}

// A start of the coordinator that is refused has not revived the disk, nor unset the cut.
func TestP20_2StartRefused(t *testing.T) {
	bad := []api.Step{startsCut(-1, 0), startsCut(math.MinInt, 5), startsCut(0, -1), startsCut(0, 129), startsCut(1, 129), startsCut(3, math.MaxInt), startsCut(1, math.MinInt)}
	b := made(t, config())
	b.do(crashes(0), down(api.Addr{}))
	b.refuses(api.ErrArg, bad...)
	b.do(starts(0), up(api.Addr{}))
	b.do(cuts(2, 0))
	b.do(submits(plain()), down(api.Addr{}))
	b.refuses(api.ErrArg, bad...)
	b.refuses(api.ErrDead, cuts(0, 0), cuts(1, 1), cuts(-1, 0), cuts(1, 129)) // it is dead still
	b.do(starts(0), up(api.Addr{}))
	// A cut that was set ahead of a crash is gone with the start.
	b.do(cuts(1, 0))
	b.do(crashes(0), down(api.Addr{}))
	b.refuses(api.ErrArg, bad...)
	b.do(starts(0), up(api.Addr{}))
	b.do(submits(plain()), submitted(1))
}

// A start sets a cut: in the start itself, or in what comes behind it.
func TestP20_2StartCut(t *testing.T) {
	b := made(t, config())
	b.do(submits(plain()), submitted(1))
	b.do(crashes(0), down(api.Addr{}))
	// A record is there, so Open lays a snapshot down: a sector, and the head.
	for _, bytes := range []int{0, 1, 128} {
		for _, k := range []int{1, 2} {
			c := b.clone()
			c.do(startsCut(k, bytes), down(api.Addr{}))
			c.refuses(api.ErrDead, cuts(0, 0))
			c.refuses(api.ErrClusterDown, submits(plain()), ticks(0))
			c.do(startsCut(k, bytes), append([]api.Event{}, cutTwice(k, bytes)...)...)
			if !c.x.Up(0) {
				c.do(starts(0), up(api.Addr{}), shown(1, 0, api.Queued, api.Result{}))
			}
			c.sameDisk()
		}
	}
	for _, k := range []int{3, 4, 5} {
		c := b.clone()
		c.do(startsCut(k, 7), up(api.Addr{}), shown(1, 0, api.Queued, api.Result{}))
		if k > 4 {
			c.do(submits(plain()), submitted(2))
		}
		c.do(submits(plain()), down(api.Addr{}))
		c.sameDisk()
	}
	for range 3 {
		b.do(starts(0), up(api.Addr{}), shown(1, 0, api.Queued, api.Result{}))
		b.do(cuts(1, 0))
		b.do(crashes(0), down(api.Addr{}))
	}
}

// cutTwice is what comes of a second start that is cut likewise: if the first one's snapshot stands there is nothing to write.
func cutTwice(k, bytes int) []api.Event {
	if k == 2 && bytes == 128 {
		return []api.Event{up(api.Addr{}), shown(1, 0, api.Queued, api.Result{})}
	}
	return []api.Event{down(api.Addr{})}
}

func TestP20_2Cut(t *testing.T) {
	b := made(t, config())
	b.refuses(api.ErrArg, cuts(-1, 0), cuts(math.MinInt, 0), cuts(0, -1), cuts(1, 129), cuts(0, 129), cuts(1, math.MaxInt))
	b.does([]api.Step{cuts(0, 0), cuts(0, 128), cuts(1, 0), cuts(math.MaxInt, 128), cuts(2, 64)})
	b.does([]api.Step{cuts(1, 0), cuts(0, 0)}) // a later one takes the place of an earlier one
	b.do(submits(plain()), submitted(1))
	b.do(cuts(3, 5))
	b.do(submits(plain()), submitted(2))
	b.do(submits(plain()), down(api.Addr{}))
	b.refuses(api.ErrDead, cuts(1, 0), cuts(0, 0), cuts(-1, 0), cuts(0, 129))
	// Of a coordinator that crashed the disk lives, and may be set to be cut.
	b.do(starts(0), up(api.Addr{}), shown(1, 0, api.Queued, api.Result{}), shown(2, 0, api.Queued, api.Result{}))
	b.do(crashes(0), down(api.Addr{}))
	b.do(cuts(1, 5))
	b.refuses(api.ErrArg, cuts(-1, 0), cuts(1, 129))
}

// A good round is, of each node that is up, a tick and a step, and then so many deliveries of the first place as there are datagrams.
func TestP20_2RoundIsSteps(t *testing.T) {
	for seed := range int64(60) {
		rnd := newRand(seed)
		b := made(t, anyConfig(rnd))
		for range 80 {
			if s := anyStep(rnd, b.x); s.Kind != api.StRound && s.Kind != api.StSettle {
				b.step(s)
				continue
			}
			o := b.clone()
			var want []api.Event
			for n := range 2 + b.w.c.Runners {
				for _, s := range []api.Step{ticks(n), stepsOf(n)} {
					if o.x.Up(n) {
						want = append(want, o.step(s)...)
					}
				}
			}
			for range o.x.Bag() {
				want = append(want, o.step(delivers(0))...)
			}
			b.do(round(), want...)
			b.sameDisk()
			if !slices.Equal(b.x.Bag(), o.x.Bag()) || !slices.Equal(b.x.Disk(), o.x.Disk()) {
				t.Fatalf("%+v, and %+v", b.x.Bag(), o.x.Bag())
			}
		}
	}
}

// What is said in a round to what is delivered in it waits; what stood there ahead of the round is delivered in it.
func TestP20_2RoundWaits(t *testing.T) {
	b := made(t, two())
	b.do(stepsOf(2))
	b.do(dups(0))
	b.do(round())
	b.underWay(7, 7, 7)
	b.do(round())
	b.underWay(7) // a Hello was said anew
	b.do(round())
	b.underWay(10, 10) // both have Polled, and there is no job
	b.do(crashes(0), down(api.Addr{}))
	b.do(round()) // it is no error that one is down
	b.underWay()
	b.does([]api.Step{crashes(2), crashes(3)}, down(runnerAt(0, 1)), down(runnerAt(1, 1)))
	b.do(round())
	b.underWay()
}

func TestP20_2Settle(t *testing.T) {
	b := working(t, config(), sample())
	b.refuses(api.ErrArg, settles(0), settles(-1), settles(257), settles(math.MinInt), settles(math.MaxInt), settles(1<<32+1))
	for _, k := range []int{1, 2, 3, 7, 255, 256} {
		one, other := b.clone(), b.clone()
		var want []api.Event
		for _, s := range rounds(k) {
			want = append(want, other.step(s)...)
		}
		one.do(settles(k), want...)
		alike(one, other)
	}
	// Rounds behind the end are rounds.
	b.step(settles(20))
	if !b.x.Settled() {
		t.Fatal("not settled")
	}
	l, _ := b.x.Sessions()
	b.do(settles(10))
	if m, _ := b.x.Sessions(); m[0].Last <= l[0].Last {
		t.Fatalf("%+v, and %+v", l, m)
	}
}

// What is told of the coordinator, in each of its changes.
func TestP20_3Coord(t *testing.T) {
	c := two()
	c.Lease, c.Window = 3, 3
	b := made(t, c)
	b.do(submits(rising(100, "emit r0")), submitted(1))
	b.do(submits(plain()), submitted(2))
	b.does(rounds(2))
	b.do(round(), granted(1, 3, runnerAt(0, 1)), granted(2, 4, runnerAt(1, 1)))
	b.do(round())
	a, z := runnerAt(0, 1), runnerAt(1, 1)
	b.do(stepsOf(2), emitted(a, 1, 3, 0, "1p0"), emitted(a, 1, 3, 1, "1p1"))
	b.do(stepsOf(2), emitted(a, 1, 3, 2, "3p0"))
	b.do(stepsOf(3), emitted(z, 2, 4, 0, "1p0"), ended(z, 2, 4, 1, one))
	chunks := b.places(api.MsgChunk)
	b.do(delivers(chunks[1]))
	b.do(delivers(chunks[2] - 1))
	b.do(delivers(chunks[0]), stored(1, 3, 0, "1p0", "1p1", "3p0"))
	b.do(delivers(b.places(api.MsgChunk)[0]), stored(2, 4, 0, "1p0"))
	for len(b.x.Bag()) > 0 {
		b.step(delivers(0))
	}
	b.do(stepsOf(2), emitted(a, 1, 3, 3, "1p2"), emitted(a, 1, 3, 4, "5p0"))
	b.do(stepsOf(3))
	b.do(delivers(b.places(api.MsgChunk)[0]), stored(1, 3, 3, "1p2"))
	b.do(delivers(b.places(api.MsgChunk)[0]), stored(1, 3, 4, "5p0"))
	b.do(delivers(b.places(api.MsgDone)[0]), recorded(2, 4, one))
	b.does([]api.Step{ticks(0), ticks(0)})
	b.do(ticks(0), expired(1, 3))
	if v, _ := b.x.View(); v.Jobs[0].Row.Badge != 3 || len(v.Jobs[0].Log) != 5 {
		t.Fatalf("%+v", v)
	}
}

// places of the messages of a kind.
func (b *both) places(kind int) []int {
	b.t.Helper()
	var out []int
	for i, k := range b.kinds() {
		if k == kind {
			out = append(out, i)
		}
	}
	return out
}

// More than one lease runs out with one tick: they are told by rising badges, lost or not.
func TestP20_3Expire(t *testing.T) {
	c := config()
	c.Runners, c.Lease, c.Attempts, c.Resend = 4, 3, 1, 1
	b := made(t, c)
	for job := 1; job <= 3; job++ {
		b.do(submits(plain()), submitted(job))
	}
	// The sessions are 1 to 4; the last runner Polls first.
	for n := 2; n <= 5; n++ {
		b.does([]api.Step{stepsOf(n), delivers(0), delivers(0)})
	}
	for i, n := range []int{5, 3, 4} {
		b.do(stepsOf(n))
		b.do(delivers(0), granted(i+1, i+5, runnerAt(n-2, 1)))
		b.do(drops(0))
	}
	b.does([]api.Step{ticks(0), ticks(0)})
	b.do(ticks(0), lost(1, 5), lost(2, 6), lost(3, 7))

	c.Attempts = 2
	b = made(t, c)
	b.do(submits(plain()), submitted(1))
	b.do(submits(plain()), submitted(2))
	for n := 2; n <= 5; n++ {
		b.does([]api.Step{stepsOf(n), delivers(0), delivers(0)})
	}
	poll := func(n int, want ...api.Event) {
		t.Helper()
		b.do(stepsOf(n))
		b.do(delivers(0), want...)
		b.do(drops(0))
	}
	poll(2, granted(1, 5, runnerAt(0, 1)))
	b.does([]api.Step{ticks(0), ticks(0)})
	b.do(ticks(0), expired(1, 5))
	poll(3, granted(1, 6, runnerAt(1, 1)))
	poll(4, granted(2, 7, runnerAt(2, 1)))
	b.does([]api.Step{ticks(0), ticks(0)})
	b.do(ticks(0), lost(1, 6), expired(2, 7))
}

// Of a round each node's events come behind what it does, in the order of what is done.
func TestP20_3Order(t *testing.T) {
	c := two()
	c.Lease = 3
	b := made(t, c)
	b.do(submits(sample()), submitted(1))
	b.do(submits(sample()), submitted(2))
	b.does(rounds(4), granted(1, 3, runnerAt(0, 1)), granted(2, 4, runnerAt(1, 1)))
	a, z := runnerAt(0, 1), runnerAt(1, 1)
	b.do(round(),
		emitted(a, 1, 3, 0, "1p0"), wrote(a, 1, 3, 1, "1p0"), emitted(z, 2, 4, 0, "1p0"), wrote(z, 2, 4, 1, "1p0"),
		stored(1, 3, 0, "1p0"), admitted(1, 3, 0, ""), admitted(1, 3, 1, "1p0"), stored(2, 4, 0, "1p0"), admitted(2, 4, 0, ""), admitted(2, 4, 1, "1p0"))
	b.does([]api.Step{ticks(0)})
	b.do(round()) // the tick ahead, and this one: a tick is left, and the Beats come
	b.does([]api.Step{ticks(0), ticks(0)}, expired(1, 3), expired(2, 4))
	b.do(round(), ended(a, 1, 3, 1, one), ended(z, 2, 4, 1, one))
}

// A call in which the power goes tells nothing but that, and says nothing.
func TestP20_4Calls(t *testing.T) {
	calls := map[string]func(b *both) api.Step{
		"submit": func(b *both) api.Step { return submits(sample()) },
		"hello": func(b *both) api.Step {
			b.step(crashes(2))
			b.step(starts(2))
			b.step(stepsOf(2))
			b.does([]api.Step{crashes(0), starts(0)}, down(api.Addr{}), up(api.Addr{}), shown(1, 2, api.Held, api.Result{}))
			return delivers(0)
		},
		"chunk": func(b *both) api.Step {
			b.step(stepsOf(2))
			return delivers(b.places(api.MsgChunk)[0])
		},
		"done": func(b *both) api.Step {
			for len(b.places(api.MsgDone)) == 0 {
				if len(b.x.Bag()) > 0 {
					b.step(delivers(0))
				} else {
					b.step(stepsOf(2))
				}
			}
			return delivers(b.places(api.MsgDone)[0])
		},
		"tick": func(b *both) api.Step {
			for range 38 {
				b.do(ticks(0))
			}
			return ticks(0)
		},
		"poll": func(b *both) api.Step {
			for range 39 {
				b.step(ticks(0))
			}
			b.does([]api.Step{crashes(2), starts(2), stepsOf(2), delivers(0), delivers(0), stepsOf(2)}, down(runnerAt(0, 1)), up(runnerAt(0, 2)))
			return delivers(0)
		},
	}
	for name, story := range calls {
		for _, bytes := range []int{0, 127, 128} {
			for _, k := range []int{1, 2} {
				b := working(t, config(), sample())
				s := story(b)
				b.do(cuts(k, bytes))
				bag := b.x.Bag()
				b.do(s, down(api.Addr{}))
				if s.Kind == api.StDeliver {
					bag = slices.Delete(bag, s.K, s.K+1)
				}
				if !slices.Equal(b.x.Bag(), bag) {
					t.Errorf("%s: said %+v", name, b.x.Bag())
				}
				b.sameDisk()
				b.refuses(api.ErrDead, cuts(0, 0))
				b.refuses(api.ErrClusterDown, ticks(0), crashes(0))
				if l := b.step(starts(0)); l[0].Kind != api.EvUp {
					t.Errorf("%s: %+v", name, l)
				}
			}
		}
	}
}

// What was done ahead of it in the step is told, and a good round goes on with the others.
func TestP20_4Round(t *testing.T) {
	c := two()
	b := made(t, c)
	b.do(submits(sample()), submitted(1))
	b.do(submits(sample()), submitted(2))
	b.does(rounds(4), granted(1, 3, runnerAt(0, 1)), granted(2, 4, runnerAt(1, 1)))
	a, z := runnerAt(0, 1), runnerAt(1, 1)
	// The first chunk is stored; the power goes in the second one; the sink admits what comes then, and nobody hears of Beats.
	b.do(cuts(4, 100))
	b.do(round(),
		emitted(a, 1, 3, 0, "1p0"), wrote(a, 1, 3, 1, "1p0"), emitted(z, 2, 4, 0, "1p0"), wrote(z, 2, 4, 1, "1p0"),
		stored(1, 3, 0, "1p0"), admitted(1, 3, 0, ""), admitted(1, 3, 1, "1p0"), down(api.Addr{}), admitted(2, 4, 0, ""), admitted(2, 4, 1, "1p0"))
	b.underWay(14, 15, 15, 11, 15, 15)
	b.does(rounds(2), ended(a, 1, 3, 1, one), ended(z, 2, 4, 1, one))
	// In its tick: the others go on.
	b.do(starts(0), up(api.Addr{}), shown(1, 3, api.Held, api.Result{}, "1p0"), shown(2, 4, api.Held, api.Result{}))
	for range 39 {
		b.do(ticks(0))
	}
	b.do(cuts(2, 0))
	l := b.step(settles(2))
	if !sameEvents(l, []api.Event{down(api.Addr{})}) || len(b.x.Bag()) == 0 && b.x.Up(0) {
		t.Fatalf("%+v", l)
	}
	b.do(starts(0), up(api.Addr{}), shown(1, 3, api.Held, api.Result{}, "1p0"), shown(2, 4, api.Held, api.Result{}))
	b.step(settles(100))
	if !b.x.Settled() {
		t.Fatal("not settled")
	}
}

// The power goes in a settle: its rounds go on without the coordinator.
func TestP20_4Settle(t *testing.T) {
	for k := 1; k <= 40; k++ {
		b := made(t, config())
		b.do(submits(sample()), submitted(1))
		b.do(cuts(k, 128))
		o := b.clone()
		var want []api.Event
		for range 12 {
			want = append(want, o.step(round())...)
		}
		b.do(settles(12), want...)
		downs := 0
		for _, e := range want {
			if e.Kind == api.EvDown {
				downs++
			}
		}
		if (downs == 0) != b.x.Up(0) || downs > 1 {
			t.Fatalf("%d: %+v", k, want)
		}
		alike(b, o)
	}
}
