package lease_test

import (
	"math/rand"
	"slices"
	"testing"

	"gaffer/api"
	"gaffer/lease"
)

// anyBadge is mostly one that is there, or a small one; now and then one that no badge is.
func anyBadge(w *words, rnd *rand.Rand) int {
	all := w.all()
	switch k := rnd.Intn(12); {
	case k == 0:
		return badBadges[rnd.Intn(len(badBadges))]
	case k == 1:
		return top - rnd.Intn(3)
	case k < 6 || len(all) == 0:
		return 1 + rnd.Intn(20)
	}
	return all[rnd.Intn(len(all))].Badge
}

// anyCall does one call to both.
func anyCall(t *testing.T, x *lease.Table, w *words, rnd *rand.Rand) {
	t.Helper()
	switch k := rnd.Intn(12); {
	case k < 5:
		sameGrant(t, x, w, rnd.Intn(10), anyBadge(w, rnd), api.Addr{Node: 2 + rnd.Intn(8), Life: 1 + rnd.Intn(3)})
	case k < 7:
		sameRenew(t, x, w, anyBadge(w, rnd))
	case k < 8:
		sameDrop(t, x, w, anyBadge(w, rnd))
	default:
		sameTick(t, x, w)
	}
}

// story is what P12.6 speaks of: the ticks that a lease has seen since its Grant, and since it was last given all of them.
type story struct{ job, sinceGrant, since, renewals int }

// Whatever is called: P12.2 to P12.5 by the words, and what follows of them, lease by lease.
func TestP12_6Walks(t *testing.T) {
	ran, renewed := 0, 0
	for seed := range int64(200) {
		rnd := rand.New(rand.NewSource(seed))
		ticks := 1 + rnd.Intn(8)
		x, w := made(t, ticks)
		stories := map[int]*story{}
		for range 300 {
			badge := anyBadge(w, rnd)
			switch k := rnd.Intn(12); {
			case k < 4:
				if job := rnd.Intn(10); sameGrant(t, x, w, job, badge, h) == api.OK {
					stories[badge] = &story{job: job}
				}
			case k < 7:
				if sameRenew(t, x, w, badge) == api.OK {
					stories[badge].since = 0
					stories[badge].renewals++
				}
			case k < 8:
				if sameDrop(t, x, w, badge) == api.OK {
					delete(stories, badge)
				}
			default:
				a, b := toldByStories(t, x, w, stories)
				ran, renewed = ran+a, renewed+b
			}
			sameAnswers(t, x, w)
		}
	}
	if ran < 500 || renewed < 100 {
		t.Errorf("just %d leases ran out without a Renew, and %d behind one", ran, renewed)
	}
}

// toldByStories ticks: told is who has seen so many ticks since it last had all of them, and nobody else. It answers how many of those were never renewed, and how many were.
func toldByStories(t *testing.T, x *lease.Table, w *words, stories map[int]*story) (never, once int) {
	t.Helper()
	var out []int
	for badge, s := range stories {
		s.since++
		s.sinceGrant++
		if s.since < w.ticks {
			continue
		}
		out = append(out, badge)
		if s.renewals > 0 {
			once++
		} else if never++; s.sinceGrant != w.ticks {
			t.Fatalf("%+v", *s)
		}
	}
	slices.Sort(out)
	var told []int
	for _, l := range sameTick(t, x, w) {
		told = append(told, l.Badge)
		if stories[l.Badge].job != l.Job {
			t.Fatalf("%+v told, of the job %d", l, stories[l.Badge].job)
		}
		delete(stories, l.Badge)
	}
	if !slices.Equal(told, out) {
		t.Fatalf("%v told, not %v", told, out)
	}
	return never, once
}

// Neither renewed nor dropped: told by the ticks-th Tick, with the Left that is gone down by one each time; by no other one, however many there are.
func TestP12_6ToldByTheLastTick(t *testing.T) {
	for ticks := 1; ticks <= 256; ticks++ {
		for _, ahead := range []int{0, 1, ticks} { // of the Grant
			x, w := made(t, ticks)
			for range ahead {
				sameTick(t, x, w)
			}
			sameGrant(t, x, w, 2, 7, h)
			for n := 1; n <= 2*ticks+1; n++ {
				told := sameTick(t, x, w)
				if (len(told) == 1) != (n == ticks) {
					t.Fatalf("ticks %d: the %d-th tells %+v", ticks, n, told)
				}
				if l, ok := x.Find(7); ok != (n < ticks) || ok && l.Left != ticks-n {
					t.Fatalf("ticks %d: behind the %d-th: %+v, %v", ticks, n, l, ok)
				}
			}
		}
	}
}

// Renewed within each ticks - 1 Ticks, as late as may be or earlier: never told. Once later than that: told.
func TestP12_6Renewed(t *testing.T) {
	for ticks := 2; ticks <= 256; ticks++ {
		for _, every := range []int{1, ticks / 2, ticks - 1} {
			x, w := made(t, ticks)
			sameGrant(t, x, w, 1, 7, h)
			for n := 1; n <= 5*ticks; n++ {
				if l := sameTick(t, x, w); len(l) != 0 {
					t.Fatalf("ticks %d, renewed every %d: the %d-th tells %+v", ticks, every, n, l)
				}
				if n%every == 0 {
					sameRenew(t, x, w, 7)
				}
			}
			sameRenew(t, x, w, 7)
			for range ticks {
				sameTick(t, x, w)
			}
			if e := sameRenew(t, x, w, 7); e != api.ErrLeaseNone {
				t.Fatalf("ticks %d: Renew behind its end: %v", ticks, e)
			}
		}
	}
}

// A lease of one tick is told by the next one, renewed or not.
func TestP12_6OneTick(t *testing.T) {
	x, w := made(t, 1)
	for range 5 {
		sameGrant(t, x, w, 1, 7, h)
		sameRenew(t, x, w, 7)
		if l := sameTick(t, x, w); len(l) != 1 || l[0] != (api.Lease{Job: 1, Badge: 7, Holder: h}) {
			t.Fatalf("Tick: %+v", l)
		}
	}
}

// Every call of a small world, at every state that it leads to: the jobs 1, 2 and 8, badges up to three.
func TestP12_6EveryStateOfASmallWorld(t *testing.T) {
	for ticks := 1; ticks <= 3; ticks++ {
		type both struct {
			x *lease.Table
			w *words
		}
		first, words0 := made(t, ticks)
		seen := map[[3]api.Lease]int{{}: 1}
		work := []both{{first, words0}}
		for len(work) > 0 {
			at := work[0]
			work = work[1:]
			visit := func(call func(x *lease.Table, w *words)) {
				x, w := at.x.Clone(), at.w.clone()
				call(x, w)
				sameAnswers(t, x, w)
				var key [3]api.Lease
				copy(key[:], listOf(x))
				if seen[key] == 0 {
					seen[key] = 1
					work = append(work, both{x, w})
				}
			}
			visit(func(x *lease.Table, w *words) { sameTick(t, x, w) })
			for badge := 0; badge <= 3; badge++ {
				visit(func(x *lease.Table, w *words) { sameRenew(t, x, w, badge) })
				visit(func(x *lease.Table, w *words) { sameDrop(t, x, w, badge) })
				for _, job := range []int{0, 1, 2, 8, 9} {
					visit(func(x *lease.Table, w *words) { sameGrant(t, x, w, job, badge, h) })
				}
			}
			sameAnswers(t, at.x, at.w) // what was done to its clones is not seen here
		}
		// None, or one, two, three leases of as many jobs, each with 1 to ticks left.
		if want := 1 + 9*ticks + 18*ticks*ticks + 6*ticks*ticks*ticks; len(seen) != want {
			t.Errorf("ticks %d: %d states, not %d", ticks, len(seen), want)
		}
	}
}
