package cluster_test

import (
	"math"
	"math/rand"
	"slices"
	"strings"
	"testing"

	"gaffer/api"
	"gaffer/cluster"
	"gaffer/coord"
	"gaffer/disk"
)

// fields of a config, with the bounds that api says beside them.
func fields(c *api.Config) []struct {
	at          *int
	least, most int
} {
	return []struct {
		at          *int
		least, most int
	}{
		{&c.Runners, 1, 8}, {&c.Lease, 1, 256}, {&c.Resend, 1, 16}, {&c.Attempts, 1, 8}, {&c.Window, 1, 8},
		{&c.Quantum, 1, 64}, {&c.Block, 1, 16}, {&c.Every, 1, 16}, {&c.Half, 160, 512},
	}
}

// far numbers are none of anything.
var far = []int{math.MinInt, -1 << 40, -1 << 32, -2, -1, 1 << 32, 1<<32 + 1, 1 << 40, math.MaxInt}

// Each number of a config at its bounds, and beyond them.
func TestP20_1Config(t *testing.T) {
	for i := range fields(&api.Config{}) {
		c := config()
		f := fields(&c)[i]
		for _, n := range append([]int{0, f.least - 1, f.most + 1}, far...) {
			if f.least <= n && n <= f.most {
				continue
			}
			*f.at = n
			if x, e := cluster.New(c); x != nil || e != api.ErrClusterConfig {
				t.Errorf("New(%+v): %v", c, e)
			}
			if l, e := cluster.Run(c, nil); len(l) > 0 || e != api.ErrClusterConfig {
				t.Errorf("Run(%+v): %v", c, e)
			}
		}
		for _, n := range []int{f.least, f.most} {
			*f.at = n
			made(t, c).sameDisk()
		}
	}
	if x, e := cluster.New(api.Config{}); x != nil || e != api.ErrClusterConfig {
		t.Errorf("New: %v", e)
	}
}

// A new fleet, field by field.
func TestP20_1New(t *testing.T) {
	for _, runners := range []int{1, 2, 8} {
		c := config()
		c.Runners, c.Half = runners, 160+runners
		x, e := cluster.New(c)
		if e != api.OK || x.Config() != c || len(x.Bag()) > 0 || len(x.Artefacts()) > 0 || !x.Settled() {
			t.Fatalf("New: %v", e)
		}
		for n := -3; n <= 12; n++ {
			if x.Up(n) != (n >= 0 && n < 2+runners) {
				t.Errorf("Up(%d): %v", n, x.Up(n))
			}
		}
		for _, n := range far {
			if _, is := x.Runner(n); is || x.Up(n) {
				t.Errorf("the node %d is up", n)
			}
		}
		for k := -3; k <= 9; k++ {
			l, is := x.Runner(k)
			if want := (api.Look{Slot: k, Life: 1}); is != (k >= 0 && k < runners) || is && l != want || !is && l != (api.Look{}) {
				t.Errorf("Runner(%d): %+v, %v", k, l, is)
			}
		}
		v, is := x.View()
		leases, there := x.Leases()
		desks, also := x.Sessions()
		if !is || !there || !also || v.Reserved != 0 || len(v.Jobs)+len(leases)+len(desks) > 0 {
			t.Errorf("%+v, %+v, %+v", v, leases, desks)
		}
		d, _ := disk.New(2 + 2*c.Half)
		coord.New(c, d)
		if !slices.Equal(x.Disk(), d.Sectors()) {
			t.Error("the disk is another one")
		}
	}
}

// What each call tells of nodes that are down.
func TestP20_5Down(t *testing.T) {
	c := config()
	c.Runners = 3
	b := made(t, c)
	b.does(append([]api.Step{submits(plain())}, rounds(3)...), submitted(1), granted(1, 4, runnerAt(0, 1)))
	sectors := b.x.Disk()
	b.do(crashes(3), down(runnerAt(1, 1)))
	b.do(crashes(0), down(api.Addr{}))
	if v, is := b.x.View(); is || v.Reserved != 0 || len(v.Jobs) > 0 {
		t.Errorf("View: %+v, %v", v, is)
	}
	if l, is := b.x.Leases(); is || len(l) > 0 {
		t.Errorf("Leases: %+v, %v", l, is)
	}
	if l, is := b.x.Sessions(); is || len(l) > 0 {
		t.Errorf("Sessions: %+v, %v", l, is)
	}
	if l, is := b.x.Runner(1); is || l != (api.Look{}) {
		t.Errorf("Runner: %+v, %v", l, is)
	}
	if l, is := b.x.Runner(2); !is || l.Slot != 2 {
		t.Errorf("Runner: %+v, %v", l, is)
	}
	for n, want := range []bool{false, true, true, false, true, false} {
		if b.x.Up(n) != want {
			t.Errorf("Up(%d): %v", n, b.x.Up(n))
		}
	}
	if !slices.Equal(b.x.Disk(), sectors) {
		t.Error("the disk is another one")
	}
}

// Settled: just if the coordinator is up and shows no job that is Queued or Held.
func TestP20_5Settled(t *testing.T) {
	c := config()
	c.Lease, c.Attempts = 3, 1
	b := made(t, c)
	settled := func(want bool) {
		t.Helper()
		if b.x.Settled() != want {
			t.Fatalf("Settled: %v", !want)
		}
	}
	settled(true)
	b.do(submits(plain()), submitted(1))
	settled(false)
	for range 3 {
		b.step(round())
		settled(false)
	}
	b.do(crashes(0), down(api.Addr{}))
	settled(false)
	b.do(starts(0), up(api.Addr{}), shown(1, 2, api.Held, api.Result{}))
	b.does([]api.Step{ticks(0), ticks(0)})
	settled(false)
	b.do(ticks(0), lost(1, 2))
	settled(true)
	b.do(submits(plain()), submitted(2))
	settled(false)
	for range 30 {
		b.step(round())
	}
	settled(true)
	b.do(crashes(0), down(api.Addr{}))
	settled(false)
	b.do(starts(0), up(api.Addr{}), shown(1, 2, api.Lost, api.Result{}), shown(2, 6, api.Recorded, one, "1p0"))
	settled(true)
}

// The bag: what is said stands behind what is under way; what is asked for changes nothing.
func TestP20_5Asking(t *testing.T) {
	for seed := range int64(10) {
		rnd := newRand(seed)
		b := made(t, anyConfig(rnd))
		for range 60 {
			b.step(anyStep(rnd, b.x))
			for range 2 {
				b.same()
			}
			b.sameDisk()
		}
	}
}

// Run is a new fleet and its steps.
func TestP20_6Run(t *testing.T) {
	for seed := range int64(40) {
		rnd := newRand(seed)
		b := made(t, anyConfig(rnd))
		var l []api.Step
		var want [][]api.Event
		for range rnd.Intn(120) {
			s := anyStep(rnd, b.x)
			l, want = append(l, s), append(want, b.step(s))
		}
		kept := slices.Clone(l)
		got, e := cluster.Run(b.w.c, l)
		if e != api.OK || !slices.EqualFunc(got, want, sameEvents) || len(got) != len(l) {
			t.Fatalf("Run of %+v: %+v, %v, not %+v", l, got, e, want)
		}
		if !slices.Equal(l, kept) {
			t.Fatal("the steps have changed")
		}
	}
}

func TestP20_6Many(t *testing.T) {
	for n, want := range map[int]api.Errno{0: 0, 1: 0, 1999: 0, 2000: 0, 2001: 1, 4000: 1} {
		l := slices.Repeat([]api.Step{ticks(0)}, n)
		got, e := cluster.Run(config(), l)
		if e != want || e == 0 && len(got) != n || e != 0 && len(got) > 0 {
			t.Errorf("Run of %d: %d, %v", n, len(got), e)
		}
		if _, e := cluster.Run(api.Config{}, l); e != api.ErrClusterConfig {
			t.Errorf("Run of no config, %d: %v", n, e)
		}
	}
	// Steps that are refused count, too, and are told as such.
	got, e := cluster.Run(config(), []api.Step{{}, submits(plain()), {Kind: 99}, submits("")})
	want := [][]api.Event{{refused(api.ErrClusterStep)}, {submitted(1)}, {refused(api.ErrClusterStep)}, {refused(api.ErrCoordProgram)}}
	if e != api.OK || !slices.EqualFunc(got, want, sameEvents) {
		t.Errorf("Run: %+v, %v", got, e)
	}
}

// anyStep is one that may do something in a fleet as it stands, now and then one that may not be.
func anyStep(rnd *rand.Rand, x *cluster.Cluster) api.Step {
	runners, under := x.Config().Runners, len(x.Bag())
	node := func() int {
		if rnd.Intn(30) == 0 {
			return rnd.Intn(14) - 2
		}
		return rnd.Intn(2 + runners)
	}
	runner := func() int { return 2 + rnd.Intn(runners) }
	place := func() int {
		if rnd.Intn(30) == 0 {
			return rnd.Intn(under+4) - 2
		}
		return rnd.Intn(under + 1)
	}
	bytes := func() int {
		return []int{0, 1, 64, 127, 128, 128, 128, 129 * rnd.Intn(2), rnd.Intn(131) - 1}[rnd.Intn(9)]
	}
	switch n := rnd.Intn(100); {
	case n < 5:
		return submits([]string{anyProgram(rnd), sample(), plain(), anyProgram(rnd), "", "x"}[rnd.Intn(6)])
	case n < 11:
		return ticks(node())
	case n < 13:
		return ticks(0)
	case n < 30:
		return stepsOf(runner())
	case n < 58:
		return delivers(place())
	case n < 63:
		return drops(place())
	case n < 68:
		return dups(place())
	case n < 70:
		return injects(node(), []string{"", "\x00", "x", "\x02\x01", strings.Repeat("\x05", 2049), "\x01", "\x08\x01\x01"}[rnd.Intn(7)])
	case n < 72:
		return crashes(node())
	case n < 76:
		return startsCut(rnd.Intn(6)*rnd.Intn(2), bytes())
	case n < 81:
		return api.Step{Kind: api.StStart, A: node(), K: rnd.Intn(4), X: bytes()}
	case n < 84:
		return cuts(rnd.Intn(5), bytes())
	case n < 97:
		return round()
	case n < 99:
		return settles(rnd.Intn(8))
	}
	return api.Step{Kind: rnd.Intn(20) - 3, A: node(), K: place()}
}
