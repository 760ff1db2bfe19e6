package cluster_test

import (
	"math/rand"
	"slices"
	"strings"
	"testing"

	"gaffer/api"
	"gaffer/cluster"
)

// walked is a fleet behind a walk.
func walked(t *testing.T, rnd *rand.Rand, many int) *both {
	t.Helper()
	b := made(t, anyConfig(rnd))
	b.step(submits(anyProgram(rnd)))
	for range many {
		if rnd.Intn(2) == 0 {
			b.step(anyStep(rnd, b.x))
		} else {
			b.step(harms(rnd, b.x, rnd.Intn(5)))
		}
	}
	return b
}

// R1: none of its calls panics, whatever it is given.
func TestR1Anything(t *testing.T) {
	rnd := newRand(1)
	number := func() int {
		if rnd.Intn(3) == 0 {
			return far[rnd.Intn(len(far))]
		}
		return rnd.Intn(14) - 3
	}
	for range 300 {
		c := anyConfig(rnd)
		if rnd.Intn(3) == 0 {
			*fields(&c)[rnd.Intn(9)].at = number()
		}
		x, e := cluster.New(c)
		if e != api.OK {
			continue
		}
		for range 60 {
			s := make([]byte, rnd.Intn(20))
			rnd.Read(s)
			step := api.Step{Kind: rnd.Intn(16) - 1, A: number(), K: number(), X: number(), Text: string(s)}
			if rnd.Intn(4) == 0 {
				step.Text = anyProgram(rnd)
			}
			if rnd.Intn(3) == 0 {
				step = anyStep(rnd, x)
			}
			x.Step(step)
			x.Up(number())
			x.Runner(number())
			x = x.Clone()
		}
	}
}

// R2: steps that are refused change nothing, in whatever state: one of two that stand alike is refused a lot, and then both go on.
func TestR2Refused(t *testing.T) {
	refusals := map[api.Errno]int{}
	for seed := range int64(60) {
		rnd := newRand(seed)
		b := walked(t, rnd, 40+rnd.Intn(80))
		twin := b.clone()
		l := []api.Step{
			{Kind: 0}, {Kind: 13}, submits(""), submits("x"), ticks(-1), ticks(12), stepsOf(-1), stepsOf(12), delivers(-1), delivers(1 << 20), drops(-1), drops(1 << 20),
			dups(-1), dups(1 << 20), injects(-1, ""), injects(0, "\x01"), injects(2, "\x01"), crashes(1), crashes(12), starts(1), starts(-1), startsCut(-1, 0), startsCut(0, 129),
			cuts(-1, 0), cuts(0, 129), settles(0), settles(257),
		}
		for n := range 2 + b.w.c.Runners {
			if b.x.Up(n) {
				l = append(l, starts(n))
			} else {
				l = append(l, crashes(n), ticks(n), stepsOf(n))
			}
		}
		if v, is := b.x.View(); !is || len(v.Jobs) == 8 {
			l = append(l, submits(plain()))
		}
		for range 2 {
			for _, s := range l {
				e := b.step(s)
				if len(e) != 1 || e[0].Kind != api.EvRefused {
					t.Fatalf("%+v: %+v", s, e)
				}
				refusals[e[0].Code]++
			}
		}
		b.sameDisk()
		alike(twin, b)
	}
	for _, e := range []api.Errno{api.ErrArg, api.ErrNetPlace, api.ErrCoordProgram, api.ErrClusterStep, api.ErrClusterNode, api.ErrClusterDown, api.ErrClusterUp, api.ErrClusterBytes} {
		if refusals[e] < 10 {
			t.Errorf("just %d refused by %v", refusals[e], e)
		}
	}
}

// spoil writes over a list and the room behind it.
func spoil[T any](l []T, x T) {
	l = l[:cap(l)]
	for i := range l {
		l[i] = x
	}
}

func spoilEvents(l []api.Event) {
	for _, e := range l {
		spoil(e.Texts, "spoilt")
	}
	spoil(l, api.Event{Kind: -1, Texts: []string{"spoilt"}})
}

// R4: what is answered is new memory, with the room behind it: whoever writes into it changes nothing here.
func TestR4Answered(t *testing.T) {
	texts := 0
	for seed := range int64(40) {
		rnd := newRand(seed)
		b := made(t, anyConfig(rnd))
		b.step(submits(anyProgram(rnd)))
		var kept [][]api.Event
		for range 150 {
			s := harms(rnd, b.x, rnd.Intn(5))
			if rnd.Intn(3) == 0 {
				s = anyStep(rnd, b.x)
			}
			l := b.step(s)
			for _, e := range l {
				texts += len(e.Texts)
			}
			spoilEvents(l)
			kept = append(kept, l)
			v, _ := b.x.View()
			for _, p := range v.Jobs {
				spoil(p.Log, "spoilt")
			}
			spoil(v.Jobs, api.Place{})
			leases, _ := b.x.Leases()
			spoil(leases, api.Lease{})
			desks, _ := b.x.Sessions()
			spoil(desks, api.Desk{})
			spoil(b.x.Bag(), api.Datagram{})
			spoil(b.x.Disk(), "spoilt")
			a := b.x.Artefacts()
			for _, x := range a {
				spoil(x.Pieces, "spoilt")
			}
			spoil(a, api.Artefact{})
			b.same()
		}
		b.sameDisk()
		for _, l := range kept {
			if slices.ContainsFunc(l[:cap(l)], func(e api.Event) bool { return e.Kind != -1 }) {
				t.Fatal("an event was told into a list that was answered")
			}
		}
	}
	if texts < 100 {
		t.Errorf("just %d texts were spoilt", texts)
	}
}

// R4: no two lists of one answer share any memory.
func TestR4Apart(t *testing.T) {
	for seed := range int64(20) {
		rnd := newRand(seed)
		c := anyConfig(rnd)
		x := fleet(t, c)
		l := []api.Step{submits(rising(90, "emit r0", "write r0")), submits(sample()), settles(3)}
		for range 60 {
			l = append(l, harms(rnd, x, 2))
		}
		l = append(l, crashes(0), starts(0), settles(50), crashes(0), starts(0))
		one, _ := cluster.Run(c, l)
		other, _ := cluster.Run(c, l)
		for i := range one {
			for j := range one[i] {
				spoil(one[i][j].Texts, "spoilt")
				one[i][j].Texts = slices.Clone(other[i][j].Texts)
			}
			if !slices.EqualFunc(one, other, sameEvents) {
				t.Fatalf("of %+v: the texts of %+v share", l[i], other[i])
			}
			spoil(one[i], api.Event{Kind: -1})
			one[i] = other[i]
			if !slices.EqualFunc(one, other, sameEvents) {
				t.Fatalf("of %+v: the events share", l[i])
			}
		}
		v, _ := fleet(t, c).View()
		w, _ := fleet(t, c).View()
		if !sameView(v, w) {
			t.Fatal("View")
		}
	}
}

// R5: the same steps tell the same.
func TestR5OneAnswer(t *testing.T) {
	for seed := range int64(30) {
		rnd := newRand(seed)
		b := made(t, anyConfig(rnd))
		var l []api.Step
		for range 150 {
			l = append(l, anyStep(rnd, b.x))
			b.step(l[len(l)-1])
		}
		one, _ := cluster.Run(b.w.c, l)
		for range 3 {
			if other, _ := cluster.Run(b.w.c, l); !slices.EqualFunc(one, other, sameEvents) {
				t.Fatalf("%+v, and %+v", one, other)
			}
		}
	}
}

// R7: a clone and its object go apart: neither sees what comes at the other, and each answers as it would have without that.
func TestR7Apart(t *testing.T) {
	doings := [][]api.Step{
		{submits(plain())}, {ticks(0), ticks(0), ticks(0), ticks(0)}, {stepsOf(2)}, {ticks(2), ticks(2), stepsOf(2)}, {delivers(0)}, {delivers(1)}, {drops(0)}, {dups(1)},
		{crashes(0)}, {crashes(2)}, {crashes(0), starts(0)}, {crashes(2), starts(2)}, {starts(0)}, {cuts(1, 5)}, {cuts(1, 5), submits(plain())}, {round()}, {settles(5)},
	}
	var stands []*both
	for seed := range int64(6) {
		rnd := newRand(seed)
		stands = append(stands, walked(t, rnd, 30+rnd.Intn(60)))
	}
	c := two()
	c.Lease = 4
	b := working(t, c, rising(300, "emit r0", "write r0"))
	b.step(stepsOf(2))
	stands = append(stands, b)
	cut := b.clone()
	cut.do(cuts(2, 9))
	stands = append(stands, cut)
	dead := cut.clone()
	dead.do(submits(plain()), down(api.Addr{}))
	stands = append(stands, dead)
	for i, start := range stands {
		for j, one := range doings {
			for k, other := range doings {
				a := start.clone()
				b := a.clone()
				for range 2 {
					for _, s := range one {
						a.step(s)
					}
					for _, s := range other {
						b.step(s)
					}
					b.same()
					a.same()
				}
				for _, x := range []*both{a, b} {
					x.step(settles(2))
					x.sameDisk()
				}
				if t.Failed() {
					t.Fatalf("%d: %d, and %d", i, j, k)
				}
			}
		}
	}
}

// R7: both go on alike where the same is done to both.
func TestR7Alike(t *testing.T) {
	for seed := range int64(60) {
		rnd := newRand(seed)
		b := walked(t, rnd, 20+rnd.Intn(100))
		twin := b.x.Clone()
		alike(b, b.clone())
		for range 100 {
			s := anyStep(rnd, b.x)
			if x, y := b.step(s), twin.Step(s); !sameEvents(x, y) {
				t.Fatalf("%+v: %+v, and %+v", s, x, y)
			}
			if rnd.Intn(10) == 0 {
				twin = twin.Clone()
			}
		}
		if !slices.Equal(b.x.Bag(), twin.Bag()) || !slices.Equal(b.x.Disk(), twin.Disk()) || b.x.Config() != twin.Config() {
			t.Fatalf("%+v, and %+v", b.x.Bag(), twin.Bag())
		}
	}
}

// Steps of greatest numbers of runners, jobs and texts: the fleet takes them.
func TestR1Greatest(t *testing.T) {
	c := api.Config{Runners: 8, Lease: 256, Resend: 16, Attempts: 8, Window: 8, Quantum: 64, Block: 16, Every: 16, Half: 512}
	w := watches(t, fleet(t, c))
	long := rising(1024, strings.Split(strings.Repeat("move r7 r7; ", 20)+"emit r0", "; ")...)
	for range 8 {
		w.step(submits(long))
	}
	w.step(settles(256))
	if len(w.recorded) != 8 {
		t.Errorf("%+v", w.known)
	}
}
