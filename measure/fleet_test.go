package measure_test

import (
	"fmt"
	"math/rand"
	"strings"
	"testing"

	"gaffer/api"
	"gaffer/cluster"
	"gaffer/prog"
	"gaffer/wire"
)

func newRand(seed int64) *rand.Rand { return rand.New(rand.NewSource(seed)) }

func fleet(t *testing.T, c api.Config) *cluster.Cluster {
	t.Helper()
	x, e := cluster.New(c)
	if e != api.OK {
		t.Fatalf("New(%+v): %v", c, e)
	}
	return x
}

// steps

func do(x *cluster.Cluster, l ...api.Step) {
	for _, s := range l {
		x.Step(s)
	}
}

func submits(program string) api.Step { return api.Step{Kind: api.StSubmit, Text: program} }

func ticks(n int) api.Step { return api.Step{Kind: api.StTick, A: n} }

func stepsOf(n int) api.Step { return api.Step{Kind: api.StStep, A: n} }

func delivers(place int) api.Step { return api.Step{Kind: api.StDeliver, K: place} }

func drops(place int) api.Step { return api.Step{Kind: api.StDrop, K: place} }

func dups(place int) api.Step { return api.Step{Kind: api.StDup, K: place} }

func crashes(n int) api.Step { return api.Step{Kind: api.StCrash, A: n} }

func starts(n int) api.Step { return api.Step{Kind: api.StStart, A: n} }

func cuts(k, bytes int) api.Step { return api.Step{Kind: api.StCut, K: k, X: bytes} }

func round() api.Step { return api.Step{Kind: api.StRound} }

func settles(k int) api.Step { return api.Step{Kind: api.StSettle, K: k} }

// config is that of the chapter's examples.
func config() api.Config {
	return api.Config{Runners: 1, Lease: 40, Resend: 2, Attempts: 2, Window: 2, Quantum: 8, Block: 4, Every: 4, Half: 160}
}

// anyConfig is any that may be, with small numbers more often than great ones.
func anyConfig(rnd *rand.Rand) api.Config {
	few := func(most int) int {
		if rnd.Intn(4) == 0 {
			return 1 + rnd.Intn(most)
		}
		return 1 + rnd.Intn(min(4, most))
	}
	return api.Config{Runners: few(8), Lease: few(64), Resend: few(16), Attempts: few(8), Window: few(8), Quantum: few(64), Block: few(16), Every: few(16), Half: 160}
}

// packed is the bytes of a program, whose lines are parted by "; ".
func packed(s string) string {
	p, e, line := prog.Parse(strings.ReplaceAll(s, "; ", "\n") + "\n")
	if e != api.OK {
		panic(fmt.Sprint(s, e, line))
	}
	b, _ := prog.Pack(p)
	return b
}

// rising is a program that counts up for good, and tells each number by these instructions of r0.
func rising(fuel int, tells ...string) string {
	return packed(fmt.Sprintf("fuel %d; set r1 1p0; add r0 r0 r1; %s; jump 1", fuel, strings.Join(tells, "; ")))
}

func anyProgram(rnd *rand.Rand) string {
	switch rnd.Intn(6) {
	case 0:
		return packed("fuel 9; set r0 1p0; emit r0; write r0; halt")
	case 1:
		return packed("fuel 9; fail r0")
	}
	return rising(1+rnd.Intn(120), []string{"emit r0", "write r0", "emit r1", "move r2 r1"}[rnd.Intn(4)], []string{"emit r0", "write r0", "write r1"}[rnd.Intn(3)])
}

// harms is a walk's way: which steps it has more often than others.
type harms struct {
	crash, restart, cut, tick, stepOf, drop, dup, round, submit, deliver int
	late                                                                 int // of 8: what is delivered is of the older half
}

func anyHarms(rnd *rand.Rand) harms {
	often := func(most int) int { return rnd.Intn(most) * rnd.Intn(2) }
	return harms{
		crash: often(6), restart: often(6), cut: often(4), tick: rnd.Intn(8), stepOf: 4 + rnd.Intn(20), drop: often(12), dup: often(16),
		round: often(4), submit: 1, deliver: 4 + rnd.Intn(40), late: rnd.Intn(9),
	}
}

// step is one of a walk.
func (h harms) step(rnd *rand.Rand, x *cluster.Cluster) api.Step {
	under, runner := len(x.Bag()), 2+rnd.Intn(x.Config().Runners)
	for n := range 2 + x.Config().Runners {
		if !x.Up(n) && rnd.Intn(8) == 0 {
			return starts(n)
		}
	}
	if under > 60 {
		return drops(rnd.Intn(under))
	}
	steps := []api.Step{crashes(runner), crashes(0), cuts(1+rnd.Intn(5), []int{0, 64, 127, 128}[rnd.Intn(4)]), ticks([]int{0, runner, runner}[rnd.Intn(3)]), stepsOf(runner), round(), submits(anyProgram(rnd))}
	often := []int{h.crash, h.restart, h.cut, h.tick, h.stepOf, h.round, h.submit}
	if under > 0 {
		place := rnd.Intn(under)
		if rnd.Intn(8) < h.late {
			place = rnd.Intn(under/2 + 1)
		}
		steps, often = append(steps, delivers(place), drops(rnd.Intn(under)), dups(rnd.Intn(under))), append(often, h.deliver, h.drop, h.dup)
	}
	sum := 0
	for _, n := range often {
		sum += n
	}
	at := rnd.Intn(sum)
	for i, n := range often {
		if at < n {
			return steps[i]
		}
		at -= n
	}
	panic("no step")
}

// walked is a fleet behind a walk.
func walked(t *testing.T, rnd *rand.Rand, many int) *cluster.Cluster {
	t.Helper()
	c := anyConfig(rnd)
	if rnd.Intn(2) == 0 {
		c.Runners, c.Attempts, c.Lease = 1+rnd.Intn(3), 1+rnd.Intn(8), 1+rnd.Intn(12)
	}
	x := fleet(t, c)
	for range 1 + rnd.Intn(4) {
		do(x, submits(anyProgram(rnd)))
	}
	h := anyHarms(rnd)
	for range many {
		do(x, h.step(rnd, x))
	}
	return x
}

// calm is a copy of a fleet whose coordinator is up, and a runner, and on whose disk no cut is set; other runners may be down.
func calm(rnd *rand.Rand, x *cluster.Cluster) *cluster.Cluster {
	x = x.Clone()
	if x.Up(0) {
		do(x, cuts(0, 0))
	} else {
		do(x, starts(0))
	}
	up := false
	for k := range x.Config().Runners {
		up = up || x.Up(2+k)
	}
	if !up {
		do(x, starts(2+rnd.Intn(x.Config().Runners)))
	}
	return x
}

// kindsUnderWay counts what is under way, by kinds.
func kindsUnderWay(x *cluster.Cluster) map[int]int {
	kinds := map[int]int{}
	for _, d := range x.Bag() {
		m, _ := wire.Decode(d.Data)
		kinds[m.Kind]++
	}
	return kinds
}
