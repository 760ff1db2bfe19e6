package audit_test

import (
	"fmt"
	"math/rand"
	"slices"
	"strings"
	"testing"

	"gaffer/api"
	"gaffer/audit"
	"gaffer/cluster"
	"gaffer/prog"
)

// tale is a fleet and all events of it.
type tale struct {
	x *cluster.Cluster
	l []api.Event
}

func fleet(t *testing.T, c api.Config) *tale {
	t.Helper()
	x, e := cluster.New(c)
	if e != api.OK {
		t.Fatalf("New(%+v): %v", c, e)
	}
	return &tale{x: x}
}

func (a *tale) step(l ...api.Step) {
	for _, s := range l {
		a.l = append(a.l, a.x.Step(s)...)
	}
}

// clone is one that goes its own way.
func (a *tale) clone() *tale { return &tale{a.x.Clone(), slices.Clone(a.l)} }

// faultless: All tells none of its events, and what follows from that holds (P21.5, P21.6).
func (a *tale) faultless(t *testing.T) {
	t.Helper()
	got, e := audit.All(a.l)
	if e != api.OK || len(got) > 0 {
		t.Fatalf("%d events: %+v, %v", len(a.l), got, e)
	}
	sound(t, a.l)
}

// steps

func submits(program string) api.Step { return api.Step{Kind: api.StSubmit, Text: program} }

func ticks(n int) api.Step { return api.Step{Kind: api.StTick, A: n} }

func stepsOf(n int) api.Step { return api.Step{Kind: api.StStep, A: n} }

func delivers(place int) api.Step { return api.Step{Kind: api.StDeliver, K: place} }

func drops(place int) api.Step { return api.Step{Kind: api.StDrop, K: place} }

func dups(place int) api.Step { return api.Step{Kind: api.StDup, K: place} }

func crashes(n int) api.Step { return api.Step{Kind: api.StCrash, A: n} }

func starts(n int) api.Step { return api.Step{Kind: api.StStart, A: n} }

func cuts(k, bytes int) api.Step { return api.Step{Kind: api.StCut, K: k, X: bytes} }

func round() api.Step { return api.Step{Kind: api.StRound} }

func settles(k int) api.Step { return api.Step{Kind: api.StSettle, K: k} }

// config is that of DOC.md's examples.
func config() api.Config {
	return api.Config{Runners: 1, Lease: 40, Resend: 2, Attempts: 2, Window: 2, Quantum: 8, Block: 4, Every: 4, Half: 160}
}

func anyConfig(rnd *rand.Rand) api.Config {
	few := func(most int) int {
		if rnd.Intn(4) == 0 {
			return 1 + rnd.Intn(most)
		}
		return 1 + rnd.Intn(min(4, most))
	}
	return api.Config{Runners: few(8), Lease: 1 + few(64), Resend: few(16), Attempts: few(8), Window: few(8), Quantum: few(64), Block: few(16), Every: few(16), Half: 160}
}

// packed is the bytes of a program, whose lines are parted by "; ".
func packed(s string) string {
	p, e, line := prog.Parse(strings.ReplaceAll(s, "; ", "\n") + "\n")
	if e != api.OK {
		panic(fmt.Sprint(s, e, line))
	}
	b, _ := prog.Pack(p)
	return b
}

// rising is a program that counts up for good, and tells each number by these instructions of r0.
func rising(fuel int, tells ...string) string {
	return packed(fmt.Sprintf("fuel %d; set r1 1p0; add r0 r0 r1; %s; jump 1", fuel, strings.Join(tells, "; ")))
}

func anyProgram(rnd *rand.Rand) string {
	switch rnd.Intn(6) {
	case 0:
		return packed("fuel 9; set r0 1p0; emit r0; write r0; halt")
	case 1:
		return packed("fuel 9; fail r0")
	}
	return rising(1+rnd.Intn(120), []string{"emit r0", "write r0", "emit r1", "move r2 r1"}[rnd.Intn(4)], []string{"emit r0", "write r0", "write r1"}[rnd.Intn(3)])
}

// anyStep is one that may do something in a fleet as it stands, now and then one that may not be; with one kind of harm more often than others.
func anyStep(rnd *rand.Rand, x *cluster.Cluster, harm int) api.Step {
	under, runner := len(x.Bag()), 2+rnd.Intn(x.Config().Runners)
	if rnd.Intn(12) == 0 {
		switch harm {
		case 0:
			return crashes(runner)
		case 1:
			return cuts(1+rnd.Intn(5), []int{0, 64, 127, 128, 128}[rnd.Intn(5)])
		case 2:
			return crashes(0)
		case 3:
			return ticks(0)
		case 4:
			return submits(anyProgram(rnd))
		}
		return api.Step{Kind: rnd.Intn(14), A: rnd.Intn(6) - 1, K: rnd.Intn(6) - 1, X: rnd.Intn(140) - 1, Text: []string{"", "x", anyProgram(rnd)}[rnd.Intn(3)]}
	}
	for n := range 2 + x.Config().Runners {
		if !x.Up(n) && rnd.Intn(6) == 0 {
			return api.Step{Kind: api.StStart, A: n, K: rnd.Intn(6) * rnd.Intn(2), X: 128 * rnd.Intn(2)}
		}
	}
	switch n := rnd.Intn(42); {
	case n == 0:
		return ticks(0)
	case n < 5:
		return ticks(runner)
	case n < 15 || under == 0:
		return stepsOf(runner)
	case n < 17:
		return drops(rnd.Intn(under))
	case n < 19:
		return dups(rnd.Intn(under))
	case n < 21:
		return round()
	}
	return delivers(rnd.Intn(under))
}

// calms: all that is down starts, no cut is set, and good rounds come till all jobs are settled.
func (a *tale) calms(t *testing.T) {
	t.Helper()
	for n := range 2 + a.x.Config().Runners {
		if !a.x.Up(n) {
			a.step(starts(n))
		}
	}
	a.step(cuts(0, 0))
	for range 200 {
		if a.x.Settled() {
			return
		}
		a.step(settles(100))
	}
	t.Fatal("not settled")
}

// walked is a fleet behind a walk, with all its events; in most of them all jobs are settled.
func walked(t *testing.T, rnd *rand.Rand, many int) *tale {
	t.Helper()
	c := anyConfig(rnd)
	if rnd.Intn(2) == 0 {
		c.Runners, c.Attempts, c.Lease = 1+rnd.Intn(4), 1+rnd.Intn(8), 1+rnd.Intn(12)
	}
	a := fleet(t, c)
	for range 1 + rnd.Intn(4) {
		a.step(submits(anyProgram(rnd)))
	}
	harm := rnd.Intn(7)
	for range many {
		a.step(anyStep(rnd, a.x, harm))
	}
	if rnd.Intn(4) > 0 {
		a.calms(t)
	}
	return a
}

// Whatever the steps of a fleet are, All tells nothing of its events.
func TestP21_5Walks(t *testing.T) {
	kinds, shown := map[int]int{}, map[int]int{}
	for seed := range int64(400) {
		a := walked(t, newRand(seed), 400)
		a.faultless(t)
		for _, v := range a.l {
			kinds[v.Kind]++
			if v.Kind == api.EvShown {
				shown[v.Status]++
			}
		}
	}
	for kind := api.EvRefused; kind <= api.EvShown; kind++ {
		if kinds[kind] < 200 {
			t.Errorf("just %d events of the kind %d", kinds[kind], kind)
		}
	}
	for status := api.Queued; status <= api.Lost; status++ {
		if shown[status] < 60 {
			t.Errorf("just %d jobs were shown as %d", shown[status], status)
		}
	}
}

// story is steps of which each makes at most one call of the coordinator; they come to all kinds of changes.
func story(t *testing.T, c api.Config, seed int64) []api.Step {
	t.Helper()
	rnd := newRand(seed)
	a := fleet(t, c)
	l := []api.Step{submits(packed("fuel 9; set r0 1p0; emit r0; write r0; halt")), submits(rising(40, "emit r0", "emit r0", "write r0")), submits(anyProgram(rnd)), submits(packed("fuel 9; fail r0"))}
	a.step(l...)
	for len(l) < 220 {
		s := delivers(0)
		switch n := rnd.Intn(20); {
		case n == 0:
			s = ticks(0)
		case n < 3:
			s = ticks(2 + rnd.Intn(c.Runners))
		case n < 6 || len(a.x.Bag()) == 0:
			s = stepsOf(2 + rnd.Intn(c.Runners))
		case n < 8:
			s = delivers(rnd.Intn(len(a.x.Bag())))
		case n == 8 && len(l)%5 == 0:
			s = submits(anyProgram(rnd))
		}
		a.step(s)
		l = append(l, s)
	}
	return l
}

// Each call of a story is cut in each of its raw writes, and so is the start behind it: All tells nothing, also of what comes then.
func TestP21_5EveryCut(t *testing.T) {
	t.Parallel()
	told, behind := 0, map[int]int{}
	for i, every := range []int{1, 3, 16} {
		c := config()
		c.Runners, c.Every, c.Lease, c.Window = 2, every, 6, 3
		a := fleet(t, c)
		for _, s := range story(t, c, int64(i)) {
			for n := 1; ; n++ {
				cut := a.clone()
				cut.step(cuts(n, 128), s)
				if cut.x.Up(api.NodeCoord) {
					break
				}
				for _, bytes := range []int{0, 127, 128} {
					cut := a.clone()
					cut.step(cuts(n, bytes), s)
					told += startsAll(t, cut, behind)
				}
			}
			a.step(s)
		}
		a.faultless(t)
	}
	if told < 3000 || behind[api.Queued] < 10 || behind[api.Held] < 50 || behind[api.Recorded] < 10 {
		t.Errorf("just %d starts; behind the call %v", told, behind)
	}
}

// startsAll starts the coordinator, on copies: as it is, and behind a start that is cut in each of its writes; how many starts there were. It counts the jobs that are shown otherwise than the events ahead tell them.
func startsAll(t *testing.T, a *tale, behind map[int]int) int {
	t.Helper()
	for n := 1; ; n++ {
		b := a.clone()
		b.step(api.Step{Kind: api.StStart, K: n, X: 64})
		over := b.x.Up(api.NodeCoord)
		if !over {
			b.step(starts(0))
		}
		w := begins()
		for _, v := range b.l {
			known := slices.Clone(w.jobs)
			w.takes(v)
			if v.Kind == api.EvShown && (v.Job > len(known) || known[v.Job-1].status != v.Status || len(known[v.Job-1].log) != len(v.Texts)) {
				behind[v.Status]++
			}
		}
		b.step(round(), round(), ticks(0), ticks(0), ticks(0), settles(20))
		b.faultless(t)
		if over {
			return n
		}
	}
}

// A fleet of the greatest numbers, and one that is told as much as may be.
func TestP21_5Great(t *testing.T) {
	c := api.Config{Runners: 8, Lease: 256, Resend: 16, Attempts: 8, Window: 8, Quantum: 64, Block: 16, Every: 16, Half: 512}
	a := fleet(t, c)
	for range 8 {
		a.step(submits(rising(1024, "move r2 r2", "emit r0", "write r0")))
	}
	a.step(settles(256))
	for range 3 {
		a.step(crashes(0), starts(0), settles(3))
	}
	a.faultless(t)
	for len(a.l) < api.MaxEvents {
		a.step(crashes(0), starts(0), crashes(3), starts(3))
	}
	a.l = a.l[:api.MaxEvents]
	a.faultless(t)
	if _, e := audit.All(append(a.l, down())); e != api.ErrAuditMany {
		t.Errorf("one more: %v", e)
	}
}
