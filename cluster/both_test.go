package cluster_test

import (
	"fmt"
	"math/rand"
	"slices"
	"strings"
	"testing"

	"gaffer/api"
	"gaffer/cluster"
	"gaffer/interp"
	"gaffer/prog"
)

// config is that of the chapter's examples.
func config() api.Config {
	return api.Config{Runners: 1, Lease: 40, Resend: 2, Attempts: 2, Window: 2, Quantum: 8, Block: 4, Every: 4, Half: 160}
}

// both is a fleet and its telling.
type both struct {
	t *testing.T
	x *cluster.Cluster
	w *words
}

func made(t *testing.T, c api.Config) *both {
	t.Helper()
	x, e := cluster.New(c)
	if x == nil || e != api.OK {
		t.Fatalf("New(%+v): %v", c, e)
	}
	b := &both{t, x, begins(c)}
	b.same()
	return b
}

func (b *both) clone() *both { return &both{b.t, b.x.Clone(), b.w.clone()} }

func sameEvent(a, b api.Event) bool {
	s, t := a.Texts, b.Texts
	a.Texts, b.Texts = nil, nil
	return fmt.Sprint(a) == fmt.Sprint(b) && slices.Equal(s, t)
}

func sameEvents(a, b []api.Event) bool { return slices.EqualFunc(a, b, sameEvent) }

func samePlace(a, b api.Place) bool {
	return a.Row == b.Row && a.Program == b.Program && slices.Equal(a.Log, b.Log)
}

func sameView(a, b api.View) bool {
	return a.Reserved == b.Reserved && slices.EqualFunc(a.Jobs, b.Jobs, samePlace)
}

func sameArtefact(a, b api.Artefact) bool {
	return a.Job == b.Job && a.Badge == b.Badge && slices.Equal(a.Pieces, b.Pieces)
}

// same asks both all that there is to ask, but for the disk.
func (b *both) same() {
	b.t.Helper()
	for n := -2; n <= 11; n++ {
		if b.x.Up(n) != (b.w.there(n) && b.w.up(n)) {
			b.t.Fatalf("Up(%d): %v", n, b.x.Up(n))
		}
	}
	if b.x.Config() != b.w.c {
		b.t.Fatalf("Config: %+v", b.x.Config())
	}
	if got := b.x.Bag(); !slices.Equal(got, b.w.way) {
		b.t.Fatalf("Bag: %+v, not %+v", got, b.w.way)
	}
	if got, want := b.x.Artefacts(), b.w.sink.Artefacts(); !slices.EqualFunc(got, want, sameArtefact) {
		b.t.Fatalf("Artefacts: %+v, not %+v", got, want)
	}
	if got, want := b.x.Settled(), b.w.settled(); got != want {
		b.t.Fatalf("Settled: %v", got)
	}
	b.sameRunners()
	b.sameCoord()
}

func (b *both) sameRunners() {
	b.t.Helper()
	for k := -3; k <= 9; k++ {
		var want api.Look
		r := b.w.runners[k+2]
		if r != nil {
			want = r.Look()
		}
		if got, up := b.x.Runner(k); up != (r != nil) || got != want {
			b.t.Fatalf("Runner(%d): %+v, %v, not %+v", k, got, up, want)
		}
	}
}

func (b *both) sameCoord() {
	b.t.Helper()
	var v api.View
	var l []api.Lease
	var s []api.Desk
	if b.w.coord != nil {
		v, l, s = b.w.coord.View(), b.w.coord.Leases(), b.w.coord.Sessions()
	}
	if got, up := b.x.View(); up != (b.w.coord != nil) || !sameView(got, v) {
		b.t.Fatalf("View: %+v, %v, not %+v", got, up, v)
	}
	if got, up := b.x.Leases(); up != (b.w.coord != nil) || !slices.Equal(got, l) {
		b.t.Fatalf("Leases: %+v, %v, not %+v", got, up, l)
	}
	if got, up := b.x.Sessions(); up != (b.w.coord != nil) || !slices.Equal(got, s) {
		b.t.Fatalf("Sessions: %+v, %v, not %+v", got, up, s)
	}
}

func (b *both) sameDisk() {
	b.t.Helper()
	if !slices.Equal(b.x.Disk(), b.w.d.Sectors()) {
		b.t.Fatal("Disk: other sectors")
	}
}

// step does one with both.
func (b *both) step(s api.Step) []api.Event {
	b.t.Helper()
	got, want := b.x.Step(s), b.w.step(s)
	if !sameEvents(got, want) {
		b.t.Fatalf("%+v: %+v, not %+v", s, got, want)
	}
	b.same()
	return got
}

// does steps, and holds the events of all of them against these.
func (b *both) does(l []api.Step, want ...api.Event) {
	b.t.Helper()
	var got []api.Event
	for _, s := range l {
		got = append(got, b.step(s)...)
	}
	if !sameEvents(got, want) {
		b.t.Fatalf("%+v: %+v, not %+v", l, got, want)
	}
}

// do does one step.
func (b *both) do(s api.Step, want ...api.Event) {
	b.t.Helper()
	b.does([]api.Step{s}, want...)
}

// refuses holds that steps are refused by an error, each alone, and that nothing changes by them.
func (b *both) refuses(e api.Errno, l ...api.Step) {
	b.t.Helper()
	twin := b.clone()
	for _, s := range l {
		b.do(s, api.Event{Kind: api.EvRefused, Code: e})
		b.sameDisk()
	}
	alike(twin, b)
}

// alike holds two against each other, at what they show and at what copies of them do next. That a cut is set is seen when it cuts; what comes else is seen without it.
func alike(a, b *both) {
	a.t.Helper()
	for _, first := range []api.Step{{Kind: api.StDrop, K: -1}, {Kind: api.StCut}} {
		a, b := a.clone(), b.clone()
		next := []api.Step{first, submits(sample()), round(), round(), starts(0), starts(2), ticks(0), settles(4), dups(0), crashes(2), starts(2), settles(9)}
		for _, s := range next {
			if x, y := a.step(s), b.step(s); !sameEvents(x, y) {
				a.t.Fatalf("%+v: %+v, and %+v", s, x, y)
			}
			if !slices.Equal(a.x.Bag(), b.x.Bag()) {
				a.t.Fatalf("%+v, and %+v", a.x.Bag(), b.x.Bag())
			}
		}
		if !slices.Equal(a.x.Disk(), b.x.Disk()) {
			a.t.Fatal("Disk: other sectors")
		}
	}
}

func newRand(seed int64) *rand.Rand { return rand.New(rand.NewSource(seed)) }

// steps

func submits(program string) api.Step { return api.Step{Kind: api.StSubmit, Text: program} }

func ticks(n int) api.Step { return api.Step{Kind: api.StTick, A: n} }

func stepsOf(n int) api.Step { return api.Step{Kind: api.StStep, A: n} }

func delivers(place int) api.Step { return api.Step{Kind: api.StDeliver, K: place} }

func drops(place int) api.Step { return api.Step{Kind: api.StDrop, K: place} }

func dups(place int) api.Step { return api.Step{Kind: api.StDup, K: place} }

func injects(n int, text string) api.Step { return api.Step{Kind: api.StInject, A: n, Text: text} }

func crashes(n int) api.Step { return api.Step{Kind: api.StCrash, A: n} }

func starts(n int) api.Step { return api.Step{Kind: api.StStart, A: n} }

func startsCut(k, bytes int) api.Step { return api.Step{Kind: api.StStart, K: k, X: bytes} }

func cuts(k, bytes int) api.Step { return api.Step{Kind: api.StCut, K: k, X: bytes} }

func round() api.Step { return api.Step{Kind: api.StRound} }

func settles(k int) api.Step { return api.Step{Kind: api.StSettle, K: k} }

// rounds is so many of them, one step each.
func rounds(n int) []api.Step { return slices.Repeat([]api.Step{round()}, n) }

// events

func runnerAt(slot, life int) api.Addr { return api.Addr{Node: 2 + slot, Life: life} }

func submitted(job int) api.Event { return api.Event{Kind: api.EvSubmitted, Job: job} }

func down(who api.Addr) api.Event { return api.Event{Kind: api.EvDown, Who: who} }

func up(who api.Addr) api.Event { return api.Event{Kind: api.EvUp, Who: who} }

func granted(job, badge int, who api.Addr) api.Event {
	return api.Event{Kind: api.EvGranted, Job: job, Badge: badge, Who: who}
}

func expired(job, badge int) api.Event {
	return api.Event{Kind: api.EvExpired, Job: job, Badge: badge}
}

func lost(job, badge int) api.Event { return api.Event{Kind: api.EvLost, Job: job, Badge: badge} }

func stored(job, badge, index int, texts ...string) api.Event {
	return api.Event{Kind: api.EvStored, Job: job, Badge: badge, Index: index, Texts: texts}
}

func recorded(job, badge int, r api.Result) api.Event {
	return api.Event{Kind: api.EvRecorded, Job: job, Badge: badge, Result: r}
}

func emitted(who api.Addr, job, badge, index int, s string) api.Event {
	return api.Event{Kind: api.EvEmitted, Who: who, Job: job, Badge: badge, Index: index, Text: s}
}

func wrote(who api.Addr, job, badge, index int, s string) api.Event {
	return api.Event{Kind: api.EvWrote, Who: who, Job: job, Badge: badge, Index: index, Text: s}
}

func ended(who api.Addr, job, badge, count int, r api.Result) api.Event {
	return api.Event{Kind: api.EvEnded, Who: who, Job: job, Badge: badge, Count: count, Result: r}
}

func admitted(job, badge, index int, s string) api.Event {
	return api.Event{Kind: api.EvAdmitted, Job: job, Badge: badge, Index: index, Text: s}
}

func shown(job, badge, status int, r api.Result, texts ...string) api.Event {
	return api.Event{Kind: api.EvShown, Job: job, Badge: badge, Status: status, Result: r, Texts: texts}
}

func refused(e api.Errno) api.Event { return api.Event{Kind: api.EvRefused, Code: e} }

// programs

const oneBits = 0x3ff0000000000000

var one = api.Result{Bits: oneBits}

// packed is the bytes of a program, whose lines are parted by "; ".
func packed(s string) string {
	p, e, line := prog.Parse(strings.ReplaceAll(s, "; ", "\n") + "\n")
	if e != api.OK {
		panic(fmt.Sprint(s, e, line))
	}
	b, _ := prog.Pack(p)
	return b
}

// sample is the program of the chapter's examples.
func sample() string { return packed("fuel 9; set r0 1p0; emit r0; write r0; halt") }

// plain is that of the examples of the whole.
func plain() string { return packed("fuel 9; set r0 1p0; emit r0; halt") }

// rising is a program that counts up for good, and tells each number by these instructions of r0.
func rising(fuel int, tells ...string) string {
	return packed(fmt.Sprintf("fuel %d; set r1 1p0; add r0 r0 r1; %s; jump 1", fuel, strings.Join(tells, "; ")))
}

// anyProgram is one that counts up, or one of random instructions, with such more often that tell something.
func anyProgram(rnd *rand.Rand) string {
	if rnd.Intn(3) > 0 {
		return rising(1+rnd.Intn(150), []string{"emit r0", "write r0", "emit r1", "move r2 r1"}[rnd.Intn(4)], []string{"emit r0", "write r0", "write r1"}[rnd.Intn(3)])
	}
	p := api.Program{Fuel: 1 + rnd.Intn(60)}
	n := 1 + rnd.Intn(8)
	for range n {
		r := func() int { return rnd.Intn(3) }
		i := api.Ins{Op: []int{api.OpEmit, api.OpWrite, api.OpSet, api.OpAdd, api.OpIf, api.OpJump, api.OpFail, api.OpHalt, api.OpPop}[rnd.Intn(9)]}
		switch i.Op {
		case api.OpSet:
			i.A, i.K = r(), []uint64{0, oneBits, 0x7ff8000000000001, 0x3fd5555555555555}[rnd.Intn(4)]
		case api.OpAdd:
			i.A, i.B, i.C = r(), r(), r()
		case api.OpJump:
			i.N = rnd.Intn(n + 1)
		case api.OpIf:
			i.A, i.N = r(), rnd.Intn(n+1)
		case api.OpHalt:
		default:
			i.A = r()
		}
		p.Code = append(p.Code, i)
	}
	b, e := prog.Pack(p)
	if e != api.OK {
		panic(e)
	}
	return b
}

// whole is what chapter 6 tells of a program's bytes.
func whole(program string) api.Outcome {
	p, e := prog.Unpack(program)
	if e != api.OK {
		panic(e)
	}
	o, _ := interp.Whole(p)
	return o
}

// anyConfig is any that may be, with small numbers more often than great ones.
func anyConfig(rnd *rand.Rand) api.Config {
	few := func(most int) int {
		if rnd.Intn(4) == 0 {
			return 1 + rnd.Intn(most)
		}
		return 1 + rnd.Intn(min(4, most))
	}
	c := api.Config{Runners: few(8), Lease: 1 + few(64), Resend: few(16), Attempts: few(8), Window: few(8), Quantum: few(64), Block: few(16), Every: few(16), Half: 160}
	if rnd.Intn(10) == 0 {
		c.Half += rnd.Intn(353)
	}
	return c
}
