package runner_test

import (
	"fmt"
	"math/rand"
	"slices"
	"strings"
	"testing"

	"gaffer/api"
	"gaffer/prog"
	"gaffer/runner"
	"gaffer/wire"
)

// config is that of the chapter's examples.
func config() api.Config { return api.Config{Runners: 1, Resend: 2, Window: 3, Quantum: 8} }

// both is a runner and its telling.
type both struct {
	t *testing.T
	x *runner.Runner
	w *words
}

func made(t *testing.T, c api.Config, slot, life int) *both {
	t.Helper()
	x, e := runner.New(c, slot, life)
	if x == nil || e != api.OK {
		t.Fatalf("New(%+v, %d, %d): %v", c, slot, life, e)
	}
	b := &both{t, x, begins(c, slot, life)}
	b.same()
	return b
}

func (b *both) clone() *both { return &both{b.t, b.x.Clone(), b.w.clone()} }

func (b *both) same() {
	b.t.Helper()
	if got, want := b.x.Look(), b.w.look(); got != want {
		b.t.Fatalf("Look: %+v, not %+v", got, want)
	}
}

func (b *both) tick() {
	b.t.Helper()
	b.x.Tick()
	b.w.tick()
	b.same()
}

func (b *both) step() []api.Datagram {
	b.t.Helper()
	ahead := b.w.look()
	got, want := b.x.Step(), b.w.step()
	if !slices.Equal(got, want) {
		b.t.Fatalf("%+v: Step: %+v, not %+v", ahead, got, want)
	}
	b.same()
	return got
}

func (b *both) bytes(from api.Addr, data string) {
	b.t.Helper()
	b.x.Hear(from, data)
	b.w.hear(from, data)
	b.same()
}

func (b *both) hear(from api.Addr, m api.Msg) {
	b.t.Helper()
	b.bytes(from, encoded(b.t, m))
}

// coord and sink say something.
func (b *both) coord(l ...api.Msg) {
	b.t.Helper()
	for _, m := range l {
		b.hear(api.Addr{}, m)
	}
}

func (b *both) sink(l ...api.Msg) {
	b.t.Helper()
	for _, m := range l {
		b.hear(api.Addr{Node: 1}, m)
	}
}

// ignores holds that a message makes no difference: neither now nor at what it does next.
func (b *both) ignores(from api.Addr, m api.Msg) {
	b.t.Helper()
	twin := b.clone()
	b.hear(from, m)
	b.alike(twin)
}

// alike holds two against each other, now, and at what copies of them do next.
func (b *both) alike(o *both) {
	b.t.Helper()
	if b.x.Look() != o.x.Look() {
		b.t.Fatalf("%+v, and %+v", b.x.Look(), o.x.Look())
	}
	b, o = b.clone(), o.clone()
	for range 3 {
		if x, y := b.step(), o.step(); !slices.Equal(x, y) {
			b.t.Fatalf("said: %+v, and %+v", x, y)
		}
		b.tick()
		o.tick()
	}
	if x, y := b.tell(), o.tell(); !slices.EqualFunc(x, y, sameEvent) {
		b.t.Fatalf("told: %+v, and %+v", x, y)
	}
}

// says holds what a Step says against what should be said, to whom it should be.
func (b *both) says(want ...api.Msg) {
	b.t.Helper()
	said(b.t, b.step(), b.w.address(), want...)
}

// ticksAndSays: a tick, and the Step behind it.
func (b *both) ticksAndSays(want ...api.Msg) {
	b.t.Helper()
	b.tick()
	b.says(want...)
}

func said(t *testing.T, got []api.Datagram, from api.Addr, want ...api.Msg) {
	t.Helper()
	var l []api.Datagram
	for _, m := range want {
		to := api.Addr{}
		if m.Kind == api.MsgPut {
			to = api.Addr{Node: 1}
		}
		l = append(l, api.Datagram{From: from, To: to, Data: encoded(t, m)})
	}
	if !slices.Equal(got, l) {
		t.Fatalf("said: %v, not %+v", messages(t, got), want)
	}
}

func messages(t *testing.T, l []api.Datagram) []api.Msg {
	t.Helper()
	var out []api.Msg
	for _, d := range l {
		m, e := wire.Decode(d.Data)
		if e != api.OK {
			t.Fatalf("said: %q", d.Data)
		}
		out = append(out, m)
	}
	return out
}

func sameEvent(a, b api.Event) bool { return fmt.Sprint(a) == fmt.Sprint(b) }

func (b *both) tell() []api.Event {
	b.t.Helper()
	got, want := b.x.Told(), b.w.tells()
	if !slices.EqualFunc(got, want, sameEvent) {
		b.t.Fatalf("Told: %+v, not %+v", got, want)
	}
	b.same()
	return got
}

// tells holds what is told against what should be.
func (b *both) tells(want ...api.Event) {
	b.t.Helper()
	for i := range want {
		want[i].Who = b.w.address()
	}
	if got := b.tell(); !slices.EqualFunc(got, want, sameEvent) {
		b.t.Fatalf("Told: %+v, not %+v", got, want)
	}
}

// messages, as they are said to a runner and by it

func encoded(t *testing.T, m api.Msg) string {
	t.Helper()
	s, e := wire.Encode(m)
	if e != api.OK {
		t.Fatalf("Encode(%+v): %v", m, e)
	}
	return s
}

func hello() api.Msg { return api.Msg{Kind: api.MsgHello} }

func welcome(session int) api.Msg { return api.Msg{Kind: api.MsgWelcome, Session: session} }

// bare is a message with a session and a number alone.
func bare(kind, session, number int) api.Msg {
	return api.Msg{Kind: kind, Session: session, Number: number}
}

func poll(session, number int) api.Msg { return bare(api.MsgPoll, session, number) }

func beat(session, number, badge int) api.Msg {
	return api.Msg{Kind: api.MsgBeat, Session: session, Number: number, Badge: badge}
}

func done(session, number, badge, count int, x api.Result) api.Msg {
	return api.Msg{Kind: api.MsgDone, Session: session, Number: number, Badge: badge, Count: count, Result: x}
}

func offer(session, number, job, badge int, program string) api.Msg {
	return api.Msg{Kind: api.MsgOffer, Session: session, Number: number, Job: job, Badge: badge, Program: program}
}

func chunk(badge, index int, s string) api.Msg {
	return api.Msg{Kind: api.MsgChunk, Badge: badge, Index: index, Text: s}
}

func put(job, badge, index int, s string) api.Msg {
	return api.Msg{Kind: api.MsgPut, Job: job, Badge: badge, Index: index, Text: s}
}

func ack(badge, count int) api.Msg { return api.Msg{Kind: api.MsgAck, Badge: badge, Count: count} }

func took(job, badge, count int) api.Msg {
	return api.Msg{Kind: api.MsgTook, Job: job, Badge: badge, Count: count}
}

func refused(job, badge int) api.Msg {
	return api.Msg{Kind: api.MsgRefused, Job: job, Badge: badge}
}

// events, without Who

func emitted(job, badge, index int, s string) api.Event {
	return api.Event{Kind: api.EvEmitted, Job: job, Badge: badge, Index: index, Text: s}
}

func wrote(job, badge, index int, s string) api.Event {
	return api.Event{Kind: api.EvWrote, Job: job, Badge: badge, Index: index, Text: s}
}

func ended(job, badge, count int, x api.Result) api.Event {
	return api.Event{Kind: api.EvEnded, Job: job, Badge: badge, Count: count, Result: x}
}

// programs

const oneBits = 0x3ff0000000000000

var one = api.Result{Bits: oneBits}

// packed is the bytes of a program, whose lines are parted by "; ".
func packed(s string) string {
	p, e, line := prog.Parse(strings.ReplaceAll(s, "; ", "\n") + "\n")
	if e != api.OK {
		panic(fmt.Sprint(s, e, line))
	}
	b, _ := prog.Pack(p)
	return b
}

// sample is the program of the chapter's examples.
func sample() string { return packed("fuel 9; set r0 1p0; emit r0; write r0; halt") }

// rising is a program that counts up for good, and tells each number by these instructions of r0.
func rising(fuel int, tells ...string) string {
	return packed(fmt.Sprintf("fuel %d; set r1 1p0; add r0 r0 r1; %s; jump 1", fuel, strings.Join(tells, "; ")))
}

// anyProgram is one that counts up, or one of random instructions, with such more often that tell something.
func anyProgram(rnd *rand.Rand) string {
	if rnd.Intn(3) == 0 {
		return rising(1+rnd.Intn(150), []string{"emit r0", "write r0", "emit r1", "move r2 r1"}[rnd.Intn(4)], []string{"emit r0", "write r0", "write r1"}[rnd.Intn(3)])
	}
	p := api.Program{Fuel: 1 + rnd.Intn(60)}
	if rnd.Intn(4) == 0 {
		p.Fuel = 1 + rnd.Intn(1024)
	}
	n := 1 + rnd.Intn(8)
	for range n {
		r := func() int { return rnd.Intn(3) }
		i := api.Ins{Op: 1 + rnd.Intn(24)}
		switch {
		case rnd.Intn(3) == 0:
			i = api.Ins{Op: api.OpEmit, A: r()}
		case rnd.Intn(3) == 0:
			i = api.Ins{Op: api.OpWrite, A: r()}
		case i.Op == api.OpSet:
			i.A, i.K = r(), []uint64{0, oneBits, 0x7ff8000000000001, 0x3fd5555555555555}[rnd.Intn(4)]
		case i.Op == api.OpMove || i.Op >= api.OpNeg && i.Op <= api.OpFloor:
			i.A, i.B = r(), r()
		case i.Op < api.OpNeg:
			i.A, i.B, i.C = r(), r(), r()
		case i.Op == api.OpJump || i.Op == api.OpCall:
			i.N = rnd.Intn(n + 1)
		case i.Op == api.OpIf:
			i.A, i.N = r(), rnd.Intn(n+1)
		case i.Op != api.OpRet && i.Op != api.OpHalt:
			i.A = r()
		}
		p.Code = append(p.Code, i)
	}
	b, e := prog.Pack(p)
	if e != api.OK {
		panic(e)
	}
	return b
}

// working is one with the session 5 that has taken such a job, the number 1 under the badge 7, and has said nothing of it.
func working(t *testing.T, c api.Config, program string) *both {
	t.Helper()
	b := polling(t, c)
	b.coord(offer(5, 1, 1, 7, program))
	if b.w.job == nil {
		t.Fatal("no job")
	}
	return b
}

// polling is one with the session 5 that has said a Poll.
func polling(t *testing.T, c api.Config) *both {
	t.Helper()
	b := made(t, c, 0, 1)
	b.says(hello())
	b.coord(welcome(5))
	b.says(poll(5, 1))
	return b
}

// anyConfig is any that may be, with small numbers more often than great ones.
func anyConfig(rnd *rand.Rand) api.Config {
	few := func(most int) int {
		if rnd.Intn(3) == 0 {
			return 1 + rnd.Intn(most)
		}
		return 1 + rnd.Intn(min(4, most))
	}
	return api.Config{Runners: few(8), Resend: few(16), Window: few(8), Quantum: few(64)}
}
