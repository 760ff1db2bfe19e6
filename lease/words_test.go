package lease_test

import (
	"slices"
	"testing"

	"gaffer/api"
	"gaffer/lease"
)

const top = 1 << 40

// hold is a job's lease; none has the badge 0.
type hold struct {
	badge  int
	holder api.Addr
	end    int // the moment at which it is told
}

// words tells a table by a clock: a lease is told at a moment that its last Grant or Renew has set, nothing is counted down.
type words struct {
	ticks, now int
	holds      [9]hold // by their jobs
}

func (w *words) lease(job int) api.Lease {
	x := w.holds[job]
	return api.Lease{Job: job, Badge: x.badge, Holder: x.holder, Left: x.end - w.now}
}

func (w *words) all() []api.Lease {
	var l []api.Lease
	for job, x := range w.holds {
		if x.badge == 0 {
			continue
		}
		at := 0
		for at < len(l) && l[at].Badge < x.badge {
			at++
		}
		l = slices.Insert(l, at, w.lease(job))
	}
	return l
}

// job: whose lease has that badge, or 0.
func (w *words) job(badge int) int {
	for job, x := range w.holds {
		if x.badge == badge && badge != 0 {
			return job
		}
	}
	return 0
}

func (w *words) grant(job, badge int, holder api.Addr) api.Errno {
	if !slices.Contains([]int{1, 2, 3, 4, 5, 6, 7, 8}, job) || badge <= 0 || badge >= top+1 {
		return 1
	}
	if w.holds[job].badge != 0 || w.job(badge) != 0 {
		return 121
	}
	w.holds[job] = hold{badge, holder, w.now + w.ticks}
	return 0
}

func (w *words) renew(badge int) api.Errno {
	job := w.job(badge)
	if job == 0 {
		return 122
	}
	w.holds[job].end = w.now + w.ticks
	return 0
}

func (w *words) drop(badge int) api.Errno {
	job := w.job(badge)
	if job == 0 {
		return 122
	}
	w.holds[job] = hold{}
	return 0
}

func (w *words) tick() []api.Lease {
	w.now++
	var out []api.Lease
	for _, l := range w.all() {
		if w.holds[l.Job].end == w.now {
			out = append(out, l)
			w.holds[l.Job] = hold{}
		}
	}
	return out
}

func (w *words) find(badge int) (api.Lease, bool) {
	job := w.job(badge)
	if job == 0 {
		return api.Lease{}, false
	}
	return w.lease(job), true
}

func (w *words) clone() *words {
	c := *w
	return &c
}

func made(t *testing.T, ticks int) (*lease.Table, *words) {
	t.Helper()
	x, e := lease.New(ticks)
	if e != api.OK || x == nil {
		t.Fatalf("New(%d): %v, %v", ticks, x, e)
	}
	return x, &words{ticks: ticks}
}

func listOf(x *lease.Table) []api.Lease {
	var l []api.Lease
	for y := range x.All() {
		l = append(l, y)
	}
	return l
}

// sameAnswers asks both everything that changes nothing.
func sameAnswers(t *testing.T, x *lease.Table, w *words) {
	t.Helper()
	all := w.all()
	if got := listOf(x); !slices.Equal(got, all) {
		t.Fatalf("All: %+v, not %+v", got, all)
	}
	for badge := -1; badge <= 9; badge++ {
		sameFind(t, x, w, badge)
	}
	for _, l := range all {
		for d := -1; d <= 1; d++ {
			sameFind(t, x, w, l.Badge+d)
		}
		sameFind(t, x, w, -l.Badge)
	}
}

func sameFind(t *testing.T, x *lease.Table, w *words, badge int) {
	t.Helper()
	got, ok := x.Find(badge)
	if want, wok := w.find(badge); got != want || ok != wok {
		t.Fatalf("%+v: Find(%d): %+v, %v, not %+v, %v", w.all(), badge, got, ok, want, wok)
	}
}

// The calls that change something, done to both, held against each other.

func sameGrant(t *testing.T, x *lease.Table, w *words, job, badge int, holder api.Addr) api.Errno {
	t.Helper()
	ahead := w.all()
	e := x.Grant(job, badge, holder)
	if want := w.grant(job, badge, holder); e != want {
		t.Fatalf("%+v: Grant(%d, %d, %v): %v, not %v", ahead, job, badge, holder, e, want)
	}
	return e
}

func sameRenew(t *testing.T, x *lease.Table, w *words, badge int) api.Errno {
	t.Helper()
	ahead := w.all()
	e := x.Renew(badge)
	if want := w.renew(badge); e != want {
		t.Fatalf("%+v: Renew(%d): %v, not %v", ahead, badge, e, want)
	}
	return e
}

func sameDrop(t *testing.T, x *lease.Table, w *words, badge int) api.Errno {
	t.Helper()
	ahead := w.all()
	e := x.Drop(badge)
	if want := w.drop(badge); e != want {
		t.Fatalf("%+v: Drop(%d): %v, not %v", ahead, badge, e, want)
	}
	return e
}

func sameTick(t *testing.T, x *lease.Table, w *words) []api.Lease {
	t.Helper()
	ahead := w.all()
	got := x.Tick()
	if want := w.tick(); !slices.Equal(got, want) {
		t.Fatalf("%+v: Tick: %+v, not %+v", ahead, got, want)
	}
	for _, l := range got {
		if l.Left != 0 {
			t.Fatalf("Tick: %+v has ticks left", l)
		}
	}
	return got
}
