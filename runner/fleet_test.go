package runner_test

import (
	"math/rand"
	"slices"
	"testing"

	"gaffer/api"
	"gaffer/coord"
	"gaffer/disk"
	"gaffer/interp"
	"gaffer/net"
	"gaffer/prog"
	"gaffer/runner"
	"gaffer/sink"
)

// fleet is runners with a coordinator and a sink as they are, and a net between.
type fleet struct {
	t       *testing.T
	c       api.Config
	d       *disk.Disk
	coord   *coord.Coord
	sink    *sink.Sink
	runners []*runner.Runner
	net     *net.Net
	wholes  []api.Outcome       // of the jobs
	told    map[int][]api.Event // of each badge
}

func newFleet(t *testing.T, c api.Config, programs ...string) *fleet {
	t.Helper()
	d, _ := disk.New(2 + 2*c.Half)
	x, e := coord.New(c, d)
	if e != api.OK {
		t.Fatal(e)
	}
	f := &fleet{t: t, c: c, d: d, coord: x, sink: sink.New(), net: net.New(), told: map[int][]api.Event{}}
	for k := range c.Runners {
		r, _ := runner.New(c, k, 1)
		f.runners = append(f.runners, r)
	}
	for _, s := range programs {
		if _, e := x.Submit(s); e != api.OK {
			t.Fatal(e)
		}
		p, _ := prog.Unpack(s)
		o, _ := interp.Whole(p)
		f.wholes = append(f.wholes, o)
	}
	return f
}

func (f *fleet) send(l []api.Datagram) {
	for _, d := range l {
		f.net.Send(d.From, d.To, d.Data)
	}
}

// deliver has a datagram arrive where it is for, if that lives.
func (f *fleet) deliver(d api.Datagram) {
	switch d.To.Node {
	case 0:
		l, _ := f.coord.Hear(d.From, d.Data)
		f.send(l)
	case 1:
		f.send(f.sink.Hear(d.From, d.Data))
	default:
		if r := f.runners[d.To.Node-2]; r.Look().Life == d.To.Life {
			r.Hear(d.From, d.Data)
		}
	}
}

// step has a runner do a Step; what it tells is kept by its badges.
func (f *fleet) step(k int) {
	f.send(f.runners[k].Step())
	for _, v := range f.runners[k].Told() {
		f.told[v.Badge] = append(f.told[v.Badge], v)
	}
}

// round is a good round.
func (f *fleet) round() {
	f.coord.Tick()
	for k, r := range f.runners {
		r.Tick()
		f.step(k)
	}
	for range f.net.Len() {
		d, _ := f.net.Take(0)
		f.deliver(d)
	}
}

func (f *fleet) settled() bool {
	return !slices.ContainsFunc(f.coord.View().Jobs, func(p api.Place) bool { return p.Row.Status < api.Recorded })
}

// check holds what there is of each job against what Whole tells: so many are recorded.
func (f *fleet) check() int {
	f.t.Helper()
	recorded := 0
	for i, p := range f.coord.View().Jobs {
		o := f.wholes[i]
		if len(p.Log) > len(o.Chunks) || !slices.Equal(p.Log, o.Chunks[:len(p.Log)]) {
			f.t.Fatalf("the log %q, of %+v", p.Log, o)
		}
		if p.Row.Status != api.Recorded {
			continue
		}
		recorded++
		at := slices.IndexFunc(f.sink.Artefacts(), func(a api.Artefact) bool { return a.Job == i+1 })
		a := f.sink.Artefacts()[at]
		if p.Row.Result != o.Result || !slices.Equal(p.Log, o.Chunks) || a.Badge != p.Row.Badge || !slices.Equal(a.Pieces, o.Pieces) {
			f.t.Fatalf("recorded %+v with %+v, of %+v", p, a, o)
		}
		l := f.told[p.Row.Badge]
		if v := l[len(l)-1]; v.Kind != api.EvEnded || v.Result != o.Result || v.Job != i+1 || v.Count != len(o.Chunks) {
			f.t.Fatalf("told %+v, of %+v", l, o)
		}
	}
	return recorded
}

func fleetConfig() api.Config {
	return api.Config{Runners: 1, Lease: 40, Resend: 2, Attempts: 2, Window: 2, Quantum: 8, Block: 4, Every: 4, Half: 160}
}

// The first example of the whole, round by round, and chapter 20's.
func TestFleetExample(t *testing.T) {
	for _, p := range []string{packed("fuel 9; set r0 1p0; emit r0; halt"), sample()} {
		f := newFleet(t, fleetConfig(), p)
		for round := 1; round <= 9; round++ {
			f.round()
			r, l := f.coord.View().Jobs[0].Row, f.runners[0].Look()
			if status := []int{1, 1, 2, 2, 2, 2, 3, 3, 3}[round-1]; r.Status != status || status > 1 && r.Badge != 2 {
				t.Fatalf("round %d: %+v", round, r)
			}
			if (l.Session == 1) != (round >= 2) || (l.Job == 1) != (round >= 4 && round <= 7) {
				t.Fatalf("round %d: %+v", round, l)
			}
			if n := len(f.coord.View().Jobs[0].Log); (n == 1) != (round >= 5) || (len(f.sink.Artefacts()) == 1) != (round >= 5) {
				t.Fatalf("round %d: a log of %d", round, n)
			}
		}
		if f.check() != 1 {
			t.Fatal("not recorded")
		}
	}
}

func programs(rnd *rand.Rand, n int) []string {
	var l []string
	for range n {
		l = append(l, anyProgram(rnd))
	}
	return l
}

// anyFleet is one of any config, with few attempts or many.
func anyFleet(t *testing.T, rnd *rand.Rand) *fleet {
	t.Helper()
	c := anyConfig(rnd)
	c.Lease, c.Attempts, c.Block, c.Every, c.Half = 3+rnd.Intn(30), 1+rnd.Intn(8), 1+rnd.Intn(16), 1+rnd.Intn(16), 160
	c.Runners = min(4, c.Runners)
	return newFleet(t, c, programs(rnd, 1+rnd.Intn(8))...)
}

// In good rounds alone each job is recorded, by whatever config, if a lease has three ticks or more.
func TestFleetInCalm(t *testing.T) {
	for seed := range int64(60) {
		f := anyFleet(t, rand.New(rand.NewSource(seed)))
		for rounds := 0; !f.settled(); rounds++ {
			if rounds == 20000 {
				t.Fatalf("seed %d: %+v", seed, f.coord.View())
			}
			f.round()
		}
		if f.check() != len(f.wholes) {
			t.Fatalf("seed %d: %+v", seed, f.coord.View())
		}
	}
}

// harm is what a net does, and who chooses what comes next: datagrams are lost, doubled, exchanged; runners begin a next life; the coordinator starts anew.
func (f *fleet) harm(rnd *rand.Rand) {
	k := rnd.Intn(len(f.runners))
	switch n := rnd.Intn(60); {
	case n == 0:
		l := f.runners[k].Look()
		f.runners[k], _ = runner.New(f.c, l.Slot, l.Life+1)
	case n == 1:
		f.coord, _ = coord.Open(f.c, f.d)
	case n == 2:
		f.coord.Tick()
	case n < 12:
		f.runners[k].Tick()
	case n < 30:
		f.step(k)
	case f.net.Len() == 0:
	case n < 34:
		f.net.Drop(rnd.Intn(f.net.Len()))
	case n < 37:
		f.net.Dup(rnd.Intn(f.net.Len()))
	default:
		d, _ := f.net.Take(rnd.Intn(f.net.Len()))
		f.deliver(d)
	}
}

// Whatever the net does: what is stored and recorded is what Whole tells; and calm comes to an end.
func TestFleetInHarm(t *testing.T) {
	recorded := 0
	for seed := range int64(60) {
		rnd := rand.New(rand.NewSource(seed))
		f := anyFleet(t, rnd)
		for range 1500 {
			f.harm(rnd)
			if rnd.Intn(50) == 0 {
				f.check()
			}
		}
		for rounds := 0; !f.settled(); rounds++ {
			if rounds == 20000 {
				t.Fatalf("seed %d: %+v", seed, f.coord.View())
			}
			f.round()
		}
		recorded += f.check()
	}
	if recorded < 100 {
		t.Errorf("just %d jobs were recorded", recorded)
	}
}
