package measure_test

import (
	"fmt"
	"slices"
	"testing"

	"gaffer/api"
	"gaffer/cluster"
	"gaffer/interp"
	"gaffer/measure"
	"gaffer/prog"
)

// falls does a good round with a fleet in which a job is not settled, and holds what follows for it: Units do not rise while a job is not settled, and Of falls.
func falls(t *testing.T, x *cluster.Cluster) {
	t.Helper()
	u, _ := measure.Units(x)
	m, e := measure.Of(x)
	if x.Settled() || e != api.OK || m <= 0 {
		t.Fatalf("Of: %d, %v", m, e)
	}
	do(x, round())
	v, f := measure.Units(x)
	n, g := measure.Of(x)
	if f != api.OK || g != api.OK || (n == 0) != x.Settled() || n >= m || !x.Settled() && v > u {
		t.Fatalf("Units %d, %v, behind %d; Of %d, %v, behind %d", v, f, u, n, g, m)
	}
}

// ends does good rounds till all jobs are settled: there are no more of them than Of told, and no more of them without a fall of Units than there may be.
func ends(t *testing.T, x *cluster.Cluster) {
	t.Helper()
	most, _ := measure.Of(x)
	last, _ := measure.Units(x)
	for rounds, since := 0, 0; !x.Settled(); rounds++ {
		do(x, round())
		n, e := measure.Units(x)
		if since++; n < last {
			since = 0
		}
		if e != api.OK || rounds >= most || !x.Settled() && (n > last || since >= x.Config().Resend+3) {
			t.Fatalf("round %d of %d: %d behind %d, %v, for %d rounds", rounds, most, n, last, e, since)
		}
		last = n
	}
}

// Whatever came ahead: behind each step of walks a good round makes Of fall, in a fleet whose coordinator is up, and a runner, and on whose disk no cut is set.
func TestP22_4Walks(t *testing.T) {
	t.Parallel()
	lines, runnersDown, slow, all := map[int]int{}, 0, 0, 0
	for seed := range int64(250) {
		rnd := newRand(seed)
		x := walked(t, rnd, 1)
		h := anyHarms(rnd)
		for range 160 {
			do(x, h.step(rnd, x))
			asks(t, x)
			y := calm(rnd, x)
			if y.Settled() {
				continue
			}
			all++
			w := told(y)
			v, _ := y.View()
			for _, p := range v.Jobs {
				if p.Row.Status == api.Held {
					_, line := w.rest(p.Row)
					lines[line]++
				}
			}
			for k := range y.Config().Runners {
				if l, up := y.Runner(k); up {
					lines[10+w.before(api.Addr{Node: 2 + k, Life: l.Life}, l)]++
				} else {
					runnersDown++
				}
			}
			if m, _ := measure.Of(y); m%(y.Config().Resend+4) > y.Config().Resend+1 {
				slow++
			}
			falls(t, y)
		}
	}
	for _, line := range []int{1, 2, 3, 4, 10, 11, 12, 13} {
		if lines[line] < 60 {
			t.Errorf("just %v", lines)
		}
	}
	if all < 20000 || runnersDown < 2000 || slow < 5 {
		t.Errorf("just %d, %d runners down, %d slow", all, runnersDown, slow)
	}
}

// Good rounds behind walks end with all jobs settled, in the rounds that Of told at most.
func TestP22_4Ends(t *testing.T) {
	t.Parallel()
	for seed := range int64(300) {
		rnd := newRand(seed)
		x := walked(t, rnd, rnd.Intn(300))
		y := calm(rnd, x)
		if seed%3 == 0 && !y.Settled() {
			z := y.Clone()
			for !z.Settled() {
				falls(t, z)
			}
		}
		ends(t, y)
	}
}

// key tells apart fleets that may go on otherwise, but for what is on the disk.
func key(x *cluster.Cluster) string {
	s := show(x)
	for i := range s.bag {
		s.bag[i].Num = 0
	}
	s.disk = nil
	return fmt.Sprint(s)
}

// Small fleets, of one job or two, with the shortest leases: in each of the first thousands, by how few steps they come of, Of falls.
func TestP22_4Small(t *testing.T) {
	t.Parallel()
	for _, small := range []struct{ runners, jobs, lease, attempts, window, most int }{{1, 1, 1, 2, 1, 3000}, {1, 1, 2, 1, 2, 3000}, {2, 1, 2, 2, 1, 3000}, {1, 2, 1, 1, 1, 2000}} {
		c := api.Config{Runners: small.runners, Lease: small.lease, Resend: 1, Attempts: small.attempts, Window: small.window, Quantum: 2, Block: 1, Every: 16, Half: 160}
		x := fleet(t, c)
		for range small.jobs {
			do(x, submits(packed("fuel 3; emit r0; halt")))
		}
		seen, row := map[string]int{key(x): 1}, []*cluster.Cluster{x}
		for at := 0; at < len(row); at++ {
			x := row[at]
			falls(t, x.Clone())
			for _, l := range moves(x) {
				y := x.Clone()
				do(y, l...)
				k := key(y)
				if seen[k] == 0 && len(row) < small.most && !y.Settled() {
					seen[k] = 1
					row = append(row, y)
				}
			}
		}
		if len(row) < small.most {
			t.Errorf("%+v: just %d", small, len(row))
		}
	}
}

// moves is all that can be done in a small fleet; what crashes starts.
func moves(x *cluster.Cluster) [][]api.Step {
	l := [][]api.Step{{ticks(0)}, {crashes(0), starts(0)}}
	for n := 2; n < 2+x.Config().Runners; n++ {
		l = append(l, []api.Step{ticks(n), stepsOf(n)}, []api.Step{stepsOf(n)}, []api.Step{crashes(n), starts(n)})
	}
	bag := x.Bag()
	for k := range bag {
		l = append(l, []api.Step{delivers(k)}, []api.Step{drops(k)})
		if len(bag) < 4 {
			l = append(l, []api.Step{dups(k)})
		}
	}
	return l
}

// In calm, with a lease of three ticks or more, each job is recorded at its first attempt, and what is recorded, stored and laid down is what chapter 6 tells.
func TestP22_5Calm(t *testing.T) {
	t.Parallel()
	jobs := 0
	for seed := range int64(150) {
		rnd := newRand(seed)
		c := anyConfig(rnd)
		if c.Lease = max(3, c.Lease); seed%2 == 0 {
			c.Lease = 3
		}
		x := fleet(t, c)
		var programs []string
		for range 1 + rnd.Intn(8) {
			programs = append(programs, anyProgram(rnd))
			do(x, submits(programs[len(programs)-1]))
		}
		jobs += len(programs)
		for !x.Settled() {
			falls(t, x)
			v, _ := x.View()
			for _, p := range v.Jobs {
				if p.Row.Status == api.Lost || p.Row.Attempts > 1 || p.Row.Status == api.Queued && p.Row.Attempts > 0 {
					t.Fatalf("seed %d: %+v", seed, p.Row)
				}
			}
		}
		do(x, settles(9))
		v, _ := x.View()
		for i, p := range v.Jobs {
			asReckoned(t, x, p, programs[i])
		}
	}
	if jobs < 400 {
		t.Errorf("just %d jobs", jobs)
	}
}

// asReckoned holds a job that is recorded against what chapter 6 tells of its program.
func asReckoned(t *testing.T, x *cluster.Cluster, p api.Place, program string) {
	t.Helper()
	q, _ := prog.Unpack(program)
	o, _ := interp.Whole(q)
	sink := x.Artefacts()
	at := slices.IndexFunc(sink, func(a api.Artefact) bool { return a.Job == p.Row.Job && a.Badge == p.Row.Badge })
	if p.Row.Status != api.Recorded || p.Row.Attempts != 1 || p.Row.Result != o.Result || !slices.Equal(p.Log, o.Chunks) || at < 0 || !slices.Equal(sink[at].Pieces, o.Pieces) {
		t.Fatalf("%+v, %+v, not %+v", p, sink, o)
	}
}

// Where nobody hears a runner its job is lost, in as many rounds as its attempts have ticks.
func TestP22_4Silent(t *testing.T) {
	c := config()
	c.Runners, c.Lease, c.Attempts = 2, 5, 1
	x := fleet(t, c)
	do(x, submits(sample()), settles(3), crashes(2))
	units(t, x, 5) // no more is told of the job: five ticks, and then it is lost
	of(t, x, 5*6+1)
	for left := 5; left > 0; left-- {
		falls(t, x)
	}
	of(t, x, 0)
	v, _ := x.View()
	if v.Jobs[0].Row.Status != api.Lost {
		t.Errorf("%+v", v.Jobs[0].Row)
	}
}
