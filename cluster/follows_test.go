package cluster_test

import (
	"math/rand"
	"slices"
	"testing"

	"gaffer/api"
	"gaffer/cluster"
	"gaffer/wire"
)

func fleet(t *testing.T, c api.Config) *cluster.Cluster {
	t.Helper()
	x, e := cluster.New(c)
	if e != api.OK {
		t.Fatalf("New(%+v): %v", c, e)
	}
	return x
}

// calms: all that is down starts, no cut is set, and good rounds come till all jobs are settled.
func (w *watch) calms() {
	w.t.Helper()
	for n := range 2 + w.x.Config().Runners {
		if !w.x.Up(n) {
			w.step(starts(n))
		}
	}
	w.step(cuts(0, 0))
	for range 200 {
		if w.x.Settled() {
			return
		}
		w.step(settles(100))
	}
	v, _ := w.x.View()
	w.t.Fatalf("not settled: %+v", v)
}

// Whatever the steps are, what follows holds behind each of them; and when calm comes, all jobs are settled.
func TestP20_7To11Walks(t *testing.T) {
	kinds, powers, behind, ends := map[int]int{}, 0, 0, map[int]int{}
	for seed := range int64(250) {
		rnd := newRand(seed)
		w := watches(t, fleet(t, anyConfig(rnd)))
		for range 2 {
			for range 120 {
				w.step(anyStep(rnd, w.x))
			}
			w.calms()
		}
		for kind, n := range w.kinds {
			kinds[kind] += n
		}
		powers += w.powers
		behind += w.behind
		for _, j := range w.known {
			ends[j.status]++
		}
	}
	for kind := api.EvRefused; kind <= api.EvShown; kind++ {
		if kinds[kind] < 100 {
			t.Errorf("just %d events of the kind %d", kinds[kind], kind)
		}
	}
	if powers < 300 || behind < 30 || ends[api.Recorded] < 300 || ends[api.Lost] < 50 {
		t.Errorf("the power went %d times, %d times behind the call; ends %v", powers, behind, ends)
	}
}

// The net does what it likes, and so do the runners; the coordinator's power goes now and then: walks with one kind of harm more often than others.
func TestP20_7To11Harm(t *testing.T) {
	recorded, again := 0, 0
	for seed := range int64(120) {
		rnd := newRand(seed)
		c := anyConfig(rnd)
		c.Runners, c.Attempts, c.Lease = 1+rnd.Intn(4), 2+rnd.Intn(7), 2+rnd.Intn(12)
		w := watches(t, fleet(t, c))
		for range 1 + rnd.Intn(4) {
			w.step(submits(anyProgram(rnd)))
		}
		harm := rnd.Intn(5)
		for range 500 {
			w.step(harms(rnd, w.x, harm))
		}
		w.calms()
		recorded += len(w.recorded)
		v, _ := w.x.View()
		for _, p := range v.Jobs {
			if p.Row.Status == api.Recorded && p.Row.Attempts > 1 {
				again++
			}
		}
	}
	if recorded < 150 || again < 50 {
		t.Errorf("just %d jobs were recorded, %d attempted again", recorded, again)
	}
}

// harms is a step of a fleet that is at work, with one kind of harm.
func harms(rnd *rand.Rand, x *cluster.Cluster, harm int) api.Step {
	under, runner := len(x.Bag()), 2+rnd.Intn(x.Config().Runners)
	if rnd.Intn(12) == 0 {
		switch harm {
		case 0:
			return crashes(runner)
		case 1:
			return cuts(1+rnd.Intn(6), 128*rnd.Intn(2))
		case 2:
			return crashes(0)
		case 3:
			return ticks(0)
		}
		return round()
	}
	for n := range 2 + x.Config().Runners {
		if !x.Up(n) && rnd.Intn(6) == 0 {
			return starts(n)
		}
	}
	switch n := rnd.Intn(40); {
	case n == 0:
		return ticks(0)
	case n < 5:
		return ticks(runner)
	case n < 15 || under == 0:
		return stepsOf(runner)
	case n < 17:
		return drops(rnd.Intn(under))
	case n < 19:
		return dups(rnd.Intn(under))
	}
	return delivers(rnd.Intn(under))
}

// Acks come late, when the runner has the next attempt of the same job, and what they were said to is lost now and then: they count for no other attempt than their own.
func TestP20_11Late(t *testing.T) {
	recorded, again, late := 0, 0, 0
	for seed := range int64(150) {
		rnd := newRand(seed)
		c := config()
		c.Runners, c.Lease, c.Resend, c.Attempts, c.Window, c.Quantum = 1+rnd.Intn(2), 2+rnd.Intn(3), 1+rnd.Intn(3), 8, 4+rnd.Intn(5), 64
		w := watches(t, fleet(t, c))
		w.step(submits(rising(2+rnd.Intn(14), "write r0", []string{"emit r0", "move r2 r0"}[rnd.Intn(2)])))
		for range 400 {
			s := lates(rnd, w.x)
			if s.Kind == api.StDeliver {
				late += isLate(w.x, s.K)
			}
			w.step(s)
		}
		w.calms()
		v, _ := w.x.View()
		recorded += len(w.recorded)
		if v.Jobs[0].Row.Attempts > 1 {
			again++
		}
	}
	if recorded < 80 || again < 80 || late < 80 {
		t.Errorf("just %d jobs were recorded, %d attempted again, %d acks came late", recorded, again, late)
	}
}

// lates is a step of a fleet whose acks are held back.
func lates(rnd *rand.Rand, x *cluster.Cluster) api.Step {
	runner, l := 2+rnd.Intn(x.Config().Runners), x.Bag()
	switch n := rnd.Intn(16); {
	case n == 0:
		return ticks(0)
	case n < 3:
		return ticks(runner)
	case n < 7 || len(l) == 0:
		return stepsOf(runner)
	}
	place := rnd.Intn(len(l))
	switch l[place].Data[0] { // the kind
	case api.MsgPut, api.MsgChunk:
		if rnd.Intn(4) == 0 {
			return drops(place)
		}
	case api.MsgAck, api.MsgTook:
		if rnd.Intn(3) > 0 {
			return dups(place)
		}
	}
	return delivers(place)
}

// isLate is 1, if what is under way there is an ack of another badge than that of the job that its runner has.
func isLate(x *cluster.Cluster, place int) int {
	d := x.Bag()[place]
	m, _ := wire.Decode(d.Data)
	if m.Kind != api.MsgAck && m.Kind != api.MsgTook {
		return 0
	}
	if l, _ := x.Runner(d.To.Node - 2); l.Job == 0 || l.Badge == m.Badge {
		return 0
	}
	return 1
}

// story is steps of which each makes at most one call of the coordinator; they come to all kinds of changes.
func story(t *testing.T, c api.Config) []api.Step {
	t.Helper()
	rnd := newRand(20)
	x := fleet(t, c)
	l := []api.Step{submits(sample()), submits(rising(40, "emit r0", "emit r0", "write r0")), submits(anyProgram(rnd)), submits(packed("fuel 9; fail r0"))}
	for _, s := range l {
		x.Step(s)
	}
	for len(l) < 260 {
		s := delivers(0)
		switch n := rnd.Intn(20); {
		case n == 0:
			s = ticks(0)
		case n < 3:
			s = ticks(2 + rnd.Intn(c.Runners))
		case n < 6 || len(x.Bag()) == 0:
			s = stepsOf(2 + rnd.Intn(c.Runners))
		case n < 8:
			s = delivers(rnd.Intn(len(x.Bag())))
		case n == 8 && len(l)%5 == 0:
			s = submits(anyProgram(rnd))
		case n == 9 && len(l)%4 == 0:
			x.Step(crashes(2))
			l = append(l, crashes(2))
			s = starts(2)
		}
		x.Step(s)
		l = append(l, s)
	}
	return l
}

// Each call of a story is cut in each of its raw writes: the coordinator that starts shows the jobs as ahead of it, or, just if the last write stands whole, as behind it. The start itself is cut, too, and shows the same at last.
func TestP20_10EveryCut(t *testing.T) {
	all, changed := 0, map[int]int{}
	for _, every := range []int{1, 3, 16} {
		c := two()
		c.Every, c.Lease, c.Window = every, 6, 3
		w := watches(t, fleet(t, c))
		for _, s := range story(t, c) {
			writes := 0
			for n := 1; cutAt(w.x, s, n, 128) != nil; n++ {
				writes = n
			}
			would := behindThese(w.known, w.x.Clone().Step(s))
			for n := 1; n <= writes; n++ {
				for _, bytes := range []int{0, 1, 100, 127, 128} {
					x := cutAt(w.x, s, n, bytes)
					want := w.known
					if n == writes && bytes == 128 {
						want = would
					}
					shownAs(t, x, want)
					all++
				}
			}
			if writes > 0 && !slices.EqualFunc(would, w.known, sameJob) {
				changed[s.Kind]++
			}
			w.step(s)
		}
		if w.kinds[api.EvRecorded] < 2 || w.kinds[api.EvExpired] == 0 {
			t.Fatalf("%v", w.kinds)
		}
	}
	if all < 2000 || changed[api.StSubmit] < 6 || changed[api.StTick] < 6 || changed[api.StDeliver] < 60 {
		t.Errorf("just %d cuts, of calls %v", all, changed)
	}
}

// cutAt is a copy of a fleet in which such a step is cut; nil, if it does not come to that write.
func cutAt(x *cluster.Cluster, s api.Step, n, bytes int) *cluster.Cluster {
	x = x.Clone()
	x.Step(cuts(n, bytes))
	if !powerWent(s, x.Step(s)) {
		return nil
	}
	return x
}

// shownAs starts the coordinator, on copies: as it is, and behind starts that are cut in each of their writes.
func shownAs(t *testing.T, x *cluster.Cluster, want []job) {
	t.Helper()
	holds := func(l []api.Event) {
		t.Helper()
		if len(l) != 1+len(want) || l[0].Kind != api.EvUp {
			t.Fatalf("%+v, not %+v", l, want)
		}
		for i, e := range l[1:] {
			if e.Job != i+1 || !sameJob(job{status: e.Status, badge: e.Badge, result: e.Result, log: e.Texts}, want[i]) {
				t.Fatalf("%+v, not %+v", l, want)
			}
		}
	}
	holds(x.Clone().Step(starts(0)))
	for n := 1; ; n++ {
		for _, bytes := range []int{0, 90, 128} {
			o := x.Clone()
			if l := o.Step(startsCut(n, bytes)); l[0].Kind == api.EvUp {
				holds(l)
				return
			}
			if l := o.Step(startsCut(1, bytes)); l[0].Kind == api.EvUp {
				holds(l) // the snapshot stood though nobody was told
				continue
			}
			holds(o.Step(starts(0)))
		}
	}
}

// In good rounds alone, with a lease of three ticks or more, each job is recorded at its first attempt.
func TestP20_11Calm(t *testing.T) {
	for seed := range int64(80) {
		rnd := newRand(seed)
		c := anyConfig(rnd)
		c.Lease = max(3, c.Lease)
		w := watches(t, fleet(t, c))
		n := 1 + rnd.Intn(8)
		for range n {
			w.step(submits(anyProgram(rnd)))
		}
		for rounds := 0; !w.x.Settled(); rounds++ {
			if rounds == 3000 {
				t.Fatalf("seed %d: %+v", seed, w.known)
			}
			w.step(round())
		}
		if len(w.recorded) != n || w.kinds[api.EvExpired]+w.kinds[api.EvLost] > 0 {
			t.Fatalf("seed %d: %+v", seed, w.known)
		}
		// For good: nothing that comes then changes it.
		known := slices.Clone(w.known)
		for range 100 {
			w.step(harms(rnd, w.x, rnd.Intn(5)))
		}
		if !slices.EqualFunc(known, w.known, sameJob) {
			t.Fatalf("seed %d: %+v became %+v", seed, known, w.known)
		}
	}
}

// All words behind each step of walks: the fleet answers as they do, and the disk is theirs, byte by byte.
func TestP20_2Walks(t *testing.T) {
	for seed := range int64(150) {
		rnd := newRand(seed)
		b := made(t, anyConfig(rnd))
		for i := range 200 {
			if rnd.Intn(3) == 0 {
				b.step(anyStep(rnd, b.x))
			} else {
				b.step(harms(rnd, b.x, rnd.Intn(5)))
			}
			if i%10 == 0 {
				b.sameDisk()
			}
		}
		b.sameDisk()
	}
}
