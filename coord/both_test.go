package coord_test

import (
	"math/rand"
	"slices"
	"strings"
	"testing"

	"gaffer/api"
	"gaffer/coord"
	"gaffer/disk"
	"gaffer/prog"
	"gaffer/wal"
	"gaffer/wire"
)

// config is that of the chapter's examples.
func config() api.Config {
	return api.Config{Runners: 2, Lease: 4, Resend: 2, Attempts: 2, Window: 2, Quantum: 4, Block: 2, Every: 4, Half: 160}
}

// both is a coordinator and its telling, each on a disk of its own.
type both struct {
	t *testing.T
	c api.Config
	d *disk.Disk
	x *coord.Coord
	w *words
}

func blank(t *testing.T, half int) *disk.Disk {
	t.Helper()
	d, e := disk.New(2 + 2*half)
	if e != api.OK {
		t.Fatal(e)
	}
	return d
}

func made(t *testing.T, c api.Config) *both {
	t.Helper()
	b := &both{t: t, c: c, d: blank(t, c.Half)}
	b.w, _ = formats(c, blank(t, c.Half))
	x, e := coord.New(c, b.d)
	if e != api.OK {
		t.Fatalf("New(%+v): %v", c, e)
	}
	b.x = x
	b.same()
	return b
}

// laid is a disk with a log: a snapshot, and records behind it.
func laid(t *testing.T, half int, snapshot string, records ...string) *disk.Disk {
	t.Helper()
	d := blank(t, half)
	wal.Format(d)
	w, _, _, e := wal.Open(d)
	if e != api.OK {
		t.Fatal(e)
	}
	if e := w.Snapshot(snapshot); e != api.OK {
		t.Fatal(e)
	}
	for _, r := range records {
		if e := w.Append(r); e != api.OK {
			t.Fatal(e)
		}
	}
	d.Forget()
	return d
}

// standing is one that was opened where such a view stands on the disk.
func standing(t *testing.T, c api.Config, v api.View) *both {
	t.Helper()
	b := &both{t: t, c: c, d: laid(t, c.Half, stateBytes(v))}
	d := b.d.Clone()
	log, _, _, _ := wal.Open(d)
	b.w = begins(c, d, log, v)
	x, e := coord.Open(c, b.d)
	if e != api.OK {
		t.Fatalf("Open of %+v: %v", v, e)
	}
	b.x = x
	b.same()
	return b
}

// clone goes its own way.
func (b *both) clone() *both {
	d := b.d.Clone()
	return &both{b.t, b.c, d, b.x.Clone(d), b.w.clone(b.w.d.Clone())}
}

func samePlace(a, b api.Place) bool {
	return a.Row == b.Row && a.Program == b.Program && slices.Equal(a.Log, b.Log)
}

func sameView(a, b api.View) bool {
	return a.Reserved == b.Reserved && slices.EqualFunc(a.Jobs, b.Jobs, samePlace)
}

func sameChange(a, b api.Change) bool {
	return a.Kind == b.Kind && a.N == b.N && a.Job == b.Job && a.Badge == b.Badge && a.Slot == b.Slot && a.Life == b.Life && a.Result == b.Result && a.Program == b.Program && slices.Equal(a.Texts, b.Texts)
}

func sameChanges(a, b []api.Change) bool { return slices.EqualFunc(a, b, sameChange) }

// same asks both all that there is to ask, and looks at what was written since it was asked last.
func (b *both) same() {
	b.t.Helper()
	if got, want := b.x.View(), b.w.view(); !sameView(got, want) {
		b.t.Fatalf("View: %+v, not %+v", got, want)
	}
	if got, want := b.x.Leases(), b.w.leases(); !slices.Equal(got, want) {
		b.t.Fatalf("Leases: %+v, not %+v", got, want)
	}
	if got, want := b.x.Sessions(), b.w.sessions(); !slices.Equal(got, want) {
		b.t.Fatalf("Sessions: %+v, not %+v", got, want)
	}
	if got, want := b.x.Dead(), b.w.dead || b.w.d.Dead(); got != want {
		b.t.Fatalf("Dead: %v", got)
	}
	if got, want := b.d.Raw(), b.w.d.Raw(); !slices.Equal(got, want) {
		b.t.Fatalf("written: %v, not %v", got, want)
	}
	b.d.Forget()
	b.w.d.Forget()
}

// sameDisk looks at all that stands there, what a cut write left with it.
func (b *both) sameDisk() {
	b.t.Helper()
	if !slices.Equal(b.d.Sectors(), b.w.d.Sectors()) {
		b.t.Fatal("other sectors")
	}
}

func (b *both) submit(program string) (int, api.Errno) {
	b.t.Helper()
	n, e := b.x.Submit(program)
	if m, f := b.w.submit(program); n != m || e != f {
		b.t.Fatalf("Submit(%q): %d, %v, not %d, %v", program, n, e, m, f)
	}
	b.same()
	return n, e
}

func (b *both) tick() api.Errno {
	b.t.Helper()
	ahead := b.w.leases()
	e := b.x.Tick()
	if f := b.w.tick(); e != f {
		b.t.Fatalf("%+v: Tick: %v, not %v", ahead, e, f)
	}
	b.same()
	return e
}

func (b *both) ticks(n int) {
	b.t.Helper()
	for range n {
		b.tick()
	}
}

// bytes hands bytes in: those that are said.
func (b *both) bytes(from api.Addr, data string) (string, api.Errno) {
	b.t.Helper()
	got, e := b.x.Hear(from, data)
	want, f := b.w.hear(from, data)
	var l []api.Datagram
	if want != "" {
		l = []api.Datagram{{To: from, Data: want}}
	}
	if !slices.Equal(got, l) || e != f {
		b.t.Fatalf("Hear(%v, %q): %+v, %v, not %+v, %v", from, data, got, e, l, f)
	}
	b.same()
	return want, e
}

// hear says a message: what is said to it, the zero one if nothing is.
func (b *both) hear(from api.Addr, m api.Msg) api.Msg {
	b.t.Helper()
	said, _ := b.bytes(from, encoded(b.t, m))
	if said == "" {
		return api.Msg{}
	}
	r, e := wire.Decode(said)
	if e != api.OK {
		b.t.Fatalf("to %+v: %q", m, said)
	}
	return r
}

// says holds what is said against what should be.
func (b *both) says(from api.Addr, m, want api.Msg) {
	b.t.Helper()
	if got := b.hear(from, m); got != want {
		b.t.Fatalf("to %+v from %v: %+v, not %+v", m, from, got, want)
	}
}

func (b *both) tell() []api.Change {
	b.t.Helper()
	got := b.x.Told()
	if want := b.w.tell(); !sameChanges(got, want) {
		b.t.Fatalf("Told: %+v, not %+v", got, want)
	}
	return got
}

// tells holds what is told against what should be.
func (b *both) tells(want ...api.Change) {
	b.t.Helper()
	if got := b.tell(); !sameChanges(got, want) {
		b.t.Fatalf("Told: %+v, not %+v", got, want)
	}
}

// arm arms both disks.
func (b *both) arm(n, bytes int) {
	b.t.Helper()
	if e := b.d.Arm(n, bytes); e != api.OK {
		b.t.Fatal(e)
	}
	b.w.d.Arm(n, bytes)
}

// open starts it anew with that config, where its disk stands now; an error leaves the old one.
func (b *both) open(c api.Config) api.Errno {
	b.t.Helper()
	x, e := coord.Open(c, b.d)
	w, f := b.w.opens(c)
	if e != f || (x == nil) != (e != api.OK) {
		b.t.Fatalf("Open(%+v): %v, %v, not %v", c, x, e, f)
	}
	if e == api.OK {
		b.x, b.w, b.c = x, w, c
		if l := b.x.Told(); len(l) > 0 {
			b.t.Fatalf("Told behind Open: %+v", l)
		}
		b.same()
	}
	return e
}

// revive lets both disks live, and starts it anew.
func (b *both) revive() {
	b.t.Helper()
	b.d.Revive()
	b.w.d.Revive()
	if e := b.open(b.c); e != api.OK {
		b.t.Fatalf("Open: %v", e)
	}
}

// messages

func encoded(t *testing.T, m api.Msg) string {
	t.Helper()
	s, e := wire.Encode(m)
	if e != api.OK {
		t.Fatalf("Encode(%+v): %v", m, e)
	}
	return s
}

func at(slot, life int) api.Addr { return api.Addr{Node: 2 + slot, Life: life} }

func hello() api.Msg { return api.Msg{Kind: api.MsgHello} }

func welcome(session int) api.Msg { return api.Msg{Kind: api.MsgWelcome, Session: session} }

// bare is a message with a session and a number alone.
func bare(kind, session, number int) api.Msg {
	return api.Msg{Kind: kind, Session: session, Number: number}
}

func poll(session, number int) api.Msg { return bare(api.MsgPoll, session, number) }

func beat(session, number, badge int) api.Msg {
	return api.Msg{Kind: api.MsgBeat, Session: session, Number: number, Badge: badge}
}

func done(session, number, badge, count int, x api.Result) api.Msg {
	return api.Msg{Kind: api.MsgDone, Session: session, Number: number, Badge: badge, Count: count, Result: x}
}

func chunk(badge, index int, s string) api.Msg {
	return api.Msg{Kind: api.MsgChunk, Badge: badge, Index: index, Text: s}
}

func ack(badge, count int) api.Msg { return api.Msg{Kind: api.MsgAck, Badge: badge, Count: count} }

func offer(session, number, job, badge int, program string) api.Msg {
	return api.Msg{Kind: api.MsgOffer, Session: session, Number: number, Job: job, Badge: badge, Program: program}
}

// changes

func reserve(n int) api.Change { return api.Change{Kind: api.ChReserve, N: n} }

func submitted(job int, p string) api.Change {
	return api.Change{Kind: api.ChSubmit, Job: job, Program: p}
}

func granted(job, badge, slot, life int) api.Change {
	return api.Change{Kind: api.ChGrant, Job: job, Badge: badge, Slot: slot, Life: life}
}

func logged(badge int, l ...string) api.Change {
	return api.Change{Kind: api.ChLog, Badge: badge, Texts: l}
}

func expired(badge int) api.Change { return api.Change{Kind: api.ChExpire, Badge: badge} }

func settled(badge int, x api.Result) api.Change {
	return api.Change{Kind: api.ChSettle, Badge: badge, Result: x}
}

// program packs one of so many instructions, unlike those of other fuels.
func program(fuel, sets int) string {
	p := api.Program{Fuel: fuel}
	for i := range sets {
		p.Code = append(p.Code, api.Ins{Op: api.OpSet, A: i % 8, K: 0x3ff0000000000000})
	}
	p.Code = append(p.Code, api.Ins{Op: api.OpHalt})
	s, e := prog.Pack(p)
	if e != api.OK {
		panic(e)
	}
	return s
}

func small() string { return program(1, 0) }

func long(n int) string { return strings.Repeat("a", n) }

// working is one with so many sessions (1, 2 ..), one a slot in the life 1, that has lent each slot as many jobs as it says, in turn.
func working(t *testing.T, c api.Config, jobs ...int) *both {
	t.Helper()
	b := made(t, c)
	for k := range jobs {
		b.says(at(k, 1), hello(), welcome(k+1))
	}
	for k, n := range jobs {
		for i := range n {
			b.submit(small())
			if m := b.hear(at(k, 1), poll(k+1, i+1)); m.Kind != api.MsgOffer {
				t.Fatalf("no offer: %+v", m)
			}
		}
	}
	b.tell()
	return b
}

// next is the number that a slot's session is to ask with, and the session.
func (b *both) next(slot int) (int, int) {
	d := b.w.desks[slot]
	return d.Session, d.Last + 1
}

// anyConfig is any that may be, with small numbers more often than great ones.
func anyConfig(rnd *rand.Rand) api.Config {
	few := func(most int) int {
		if rnd.Intn(3) == 0 {
			return 1 + rnd.Intn(most)
		}
		return 1 + rnd.Intn(min(4, most))
	}
	return api.Config{Runners: few(8), Lease: few(256), Resend: few(16), Attempts: few(8), Window: few(8), Quantum: few(64), Block: few(16), Every: few(16), Half: 160}
}

// anyMessage is one of a few that a runner might say, or might have said, as its desk stands.
func anyMessage(rnd *rand.Rand, b *both, slot int) api.Msg {
	d := b.w.desks[slot]
	s, n := max(1, d.Session), d.Last+1
	switch rnd.Intn(12) {
	case 0:
		n = max(1, d.Last)
	case 1:
		n += 1 + rnd.Intn(2)
	case 2:
		n = max(1, d.Last-1)
	case 3:
		s = max(1, s+rnd.Intn(3)-1)
	}
	badge := max(1, b.w.last-rnd.Intn(4))
	count := rnd.Intn(3)
	index := rnd.Intn(4)
	if held := b.w.leases(); len(held) > 0 && rnd.Intn(8) > 0 {
		x := held[rnd.Intn(len(held))]
		for _, y := range held {
			if y.Holder.Node == slot+2 && rnd.Intn(4) > 0 {
				x = y
			}
		}
		badge = x.Badge
		have := len(b.w.view().Jobs[x.Job-1].Log)
		index = min(31, max(0, have+rnd.Intn(b.c.Window+3)-1))
		if rnd.Intn(4) > 0 {
			count = have
		}
	}
	switch rnd.Intn(10) {
	case 0:
		return hello()
	case 1, 2:
		return poll(s, n)
	case 3, 4:
		return beat(s, n, badge)
	case 5:
		x := api.Result{Code: rnd.Intn(8)}
		if x.Code == 0 {
			x.Bits = uint64(rnd.Intn(5))
		}
		return done(s, n, badge, count, x)
	}
	return chunk(badge, index, []string{"", "a", "b", long(32)}[rnd.Intn(4)])
}

// anyBytes is a message, or one that is spoilt.
func anyBytes(rnd *rand.Rand, b *both, slot int) string {
	s := encoded(b.t, anyMessage(rnd, b, slot))
	switch rnd.Intn(20) {
	case 0:
		return s[:rnd.Intn(len(s))]
	case 1:
		return s + "\x00"
	case 2:
		x := []byte(s)
		x[rnd.Intn(len(x))] ^= 1 << rnd.Intn(8)
		return string(x)
	}
	return s
}

// anyCall does one of all calls.
func (b *both) anyCall(rnd *rand.Rand) {
	b.t.Helper()
	switch n := rnd.Intn(40); {
	case n == 0:
		b.submit([]string{"", "x", long(1025), small() + "\x00"}[rnd.Intn(4)])
	case n < 4:
		b.submit(program(1+rnd.Intn(9), rnd.Intn(64)))
	case n < 7:
		b.tick()
	case n == 7:
		b.tell()
	default:
		slot := rnd.Intn(b.c.Runners)
		life := max(1, b.w.desks[slot].Life)
		if rnd.Intn(12) == 0 {
			life = max(1, life+rnd.Intn(3)-1)
		}
		b.bytes(at(slot, life), anyBytes(rnd, b, slot))
	}
}
