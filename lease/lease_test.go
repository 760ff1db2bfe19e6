package lease_test

import (
	"math"
	"slices"
	"testing"

	"gaffer/api"
	"gaffer/lease"
)

var (
	h = api.Addr{Node: 2, Life: 1}
	g = api.Addr{Node: 3, Life: 1}

	badJobs   = []int{0, -1, -8, 9, 10, 257, 1<<32 + 1, top, math.MinInt, math.MaxInt}
	badBadges = []int{0, -1, -7, -top, top + 1, top + 7, 2 * top, math.MinInt, math.MaxInt}
)

func TestErrorNumbers(t *testing.T) {
	if api.ErrArg != 1 || api.ErrLeaseTicks != 120 || api.ErrLeaseThere != 121 || api.ErrLeaseNone != 122 || api.ErrLeaseFull != 123 ||
		api.MaxJobs != 8 || api.MaxLease != 256 || api.MaxNumber != top {
		t.Error("numbers of api")
	}
}

// The chapter's table of examples, call by call.
func TestP12Examples(t *testing.T) {
	for _, n := range []int{0, 257} {
		if x, e := lease.New(n); x != nil || e != api.ErrLeaseTicks {
			t.Errorf("New(%d): %v, %v", n, x, e)
		}
	}
	x, _ := made(t, 2)
	for _, y := range []struct {
		job, badge int
		holder     api.Addr
		want       api.Errno
	}{
		{0, 1, h, api.ErrArg}, {9, 1, h, api.ErrArg}, {1, 0, h, api.ErrArg},
		{1, 7, h, api.OK}, {2, 7, h, api.ErrLeaseThere}, {1, 8, h, api.ErrLeaseThere}, {2, 5, g, api.OK},
	} {
		if e := x.Grant(y.job, y.badge, y.holder); e != y.want {
			t.Errorf("Grant(%d, %d, %v): %v", y.job, y.badge, y.holder, e)
		}
	}
	if l := listOf(x); !slices.Equal(l, []api.Lease{{Job: 2, Badge: 5, Holder: g, Left: 2}, {Job: 1, Badge: 7, Holder: h, Left: 2}}) {
		t.Errorf("All: %+v", l)
	}
	if l := x.Tick(); len(l) != 0 {
		t.Errorf("Tick: %+v", l)
	}
	if a, b := x.Renew(7), x.Renew(9); a != api.OK || b != api.ErrLeaseNone {
		t.Errorf("Renew: %v, %v", a, b)
	}
	if l := x.Tick(); !slices.Equal(l, []api.Lease{{Job: 2, Badge: 5, Holder: g}}) {
		t.Errorf("Tick: %+v", l)
	}
	if l, ok := x.Find(5); ok || l != (api.Lease{}) {
		t.Errorf("Find(5): %+v", l)
	}
	if l, ok := x.Find(7); !ok || l != (api.Lease{Job: 1, Badge: 7, Holder: h, Left: 1}) {
		t.Errorf("Find(7): %+v, %v", l, ok)
	}
	if a, b := x.Drop(5), x.Drop(7); a != api.ErrLeaseNone || b != api.OK {
		t.Errorf("Drop: %v, %v", a, b)
	}
	if l := x.Tick(); len(l) != 0 {
		t.Errorf("Tick: %+v", l)
	}
}

func TestP12_1EveryNumberOfTicks(t *testing.T) {
	for ticks := 1; ticks <= 256; ticks++ {
		x, w := made(t, ticks)
		sameAnswers(t, x, w)
		sameTick(t, x, w)
		sameGrant(t, x, w, 1, 1, h)
		sameAnswers(t, x, w)
	}
}

func TestP12_1WrongNumbers(t *testing.T) {
	for _, ticks := range []int{0, -1, -2, -256, 257, 258, 512, 1<<32 + 1, top, math.MinInt, math.MaxInt} {
		if x, e := lease.New(ticks); x != nil || e != api.ErrLeaseTicks {
			t.Errorf("New(%d): %v, %v", ticks, x, e)
		}
	}
}

func TestP12_2EveryJobAndBadge(t *testing.T) {
	for job := 1; job <= 8; job++ {
		for _, badge := range []int{1, 2, 8, 9, 255, 256, math.MaxInt32, math.MaxUint32, math.MaxUint32 + 2, top - 1, top} {
			x, w := made(t, 3)
			if e := sameGrant(t, x, w, job, badge, h); e != api.OK {
				t.Errorf("Grant(%d, %d): %v", job, badge, e)
			}
			sameAnswers(t, x, w)
		}
	}
}

// A number that may not be is ErrArg, whatever is there.
func TestP12_2WrongNumbers(t *testing.T) {
	for full := 0; full <= 8; full++ {
		x, w := made(t, 3)
		for job := 1; job <= full; job++ {
			sameGrant(t, x, w, job, job, h)
		}
		for _, job := range badJobs {
			for _, badge := range []int{1, 8, 9, top, 0, -1, top + 1} {
				if e := sameGrant(t, x, w, job, badge, h); e != api.ErrArg {
					t.Errorf("%d leases: Grant(%d, %d): %v", full, job, badge, e)
				}
			}
		}
		for _, badge := range badBadges {
			for job := 1; job <= 8; job++ {
				if e := sameGrant(t, x, w, job, badge, h); e != api.ErrArg {
					t.Errorf("%d leases: Grant(%d, %d): %v", full, job, badge, e)
				}
			}
		}
		sameAnswers(t, x, w)
	}
}

// The holder is kept as it is, also one that no runner has; two leases may have one.
func TestP12_2AnyHolder(t *testing.T) {
	numbers := []int{0, 1, 2, 9, 10, -1, top, top + 1, math.MinInt, math.MaxInt}
	for _, node := range numbers {
		for _, life := range numbers {
			x, w := made(t, 1)
			a := api.Addr{Node: node, Life: life}
			for job := 1; job <= 2; job++ {
				if e := sameGrant(t, x, w, job, 9-job, a); e != api.OK {
					t.Errorf("Grant of %v: %v", a, e)
				}
			}
			sameAnswers(t, x, w)
			for _, l := range sameTick(t, x, w) {
				if l.Holder != a {
					t.Errorf("%v, not %v", l.Holder, a)
				}
			}
		}
	}
}

// A lease of the job, or of the badge, or of both, is there; none of them is renewed by being asked for.
func TestP12_2There(t *testing.T) {
	x, w := made(t, 4)
	sameGrant(t, x, w, 3, 30, h)
	sameGrant(t, x, w, 5, 10, h)
	sameTick(t, x, w)
	for _, y := range [][2]int{{3, 30}, {5, 10}, {3, 10}, {5, 30}, {3, 31}, {3, 1}, {5, top}, {1, 30}, {8, 10}} {
		if e := sameGrant(t, x, w, y[0], y[1], g); e != api.ErrLeaseThere {
			t.Errorf("Grant(%d, %d): %v", y[0], y[1], e)
		}
		sameAnswers(t, x, w)
	}
}

// Badges of leases need not rise.
func TestP12_2AnyOrderOfBadges(t *testing.T) {
	for _, badges := range [][]int{{8, 7, 6, 5, 4, 3, 2, 1}, {1, 2, 3, 4, 5, 6, 7, 8}, {top, 1, top - 1, 2, 300, 299, 301, 5}, {10, 9, 100, 99, 11, 1000, 8, 7}} {
		x, w := made(t, 2)
		for i, badge := range badges {
			if e := sameGrant(t, x, w, i+1, badge, h); e != api.OK {
				t.Errorf("Grant(%d, %d): %v", i+1, badge, e)
			}
			sameAnswers(t, x, w)
		}
		if l := listOf(x); !slices.IsSortedFunc(l, func(a, b api.Lease) int { return a.Badge - b.Badge }) || len(l) != 8 {
			t.Errorf("All: %+v", l)
		}
	}
}

// With a lease of each job there is one of whichever job is asked for: ErrLeaseThere, which is named ahead of ErrLeaseFull.
func TestP12_2NeverFull(t *testing.T) {
	x, w := made(t, 2)
	for job := 1; job <= 8; job++ {
		sameGrant(t, x, w, job, 10*job, h)
	}
	for job := 1; job <= 8; job++ {
		for _, badge := range []int{1, 10, 80, 81, top} {
			if e := sameGrant(t, x, w, job, badge, h); e != api.ErrLeaseThere {
				t.Errorf("Grant(%d, %d): %v", job, badge, e)
			}
		}
	}
	sameAnswers(t, x, w)
	sameDrop(t, x, w, 40)
	if e := sameGrant(t, x, w, 4, 5, h); e != api.OK {
		t.Errorf("Grant(4, 5): %v", e)
	}
	sameAnswers(t, x, w)
}

// Whichever way a lease ended: its job and its badge are free, together and each with another one.
func TestP12_2AgainBehindItsEnd(t *testing.T) {
	ends := []func(x *lease.Table, w *words){
		func(x *lease.Table, w *words) { sameDrop(t, x, w, 7) },
		func(x *lease.Table, w *words) { sameTick(t, x, w); sameTick(t, x, w) },
	}
	for i, end := range ends {
		for _, again := range [][2]int{{1, 7}, {1, 8}, {1, 6}, {2, 7}} {
			x, w := made(t, 2)
			sameGrant(t, x, w, 1, 7, h)
			end(x, w)
			if e := sameGrant(t, x, w, again[0], again[1], g); e != api.OK {
				t.Errorf("end %d: Grant(%d, %d): %v", i, again[0], again[1], e)
			}
			sameAnswers(t, x, w)
		}
	}
}

// Renew gives all ticks from wherever the lease stands, to that one alone.
func TestP12_3RenewAtEveryTick(t *testing.T) {
	for ticks := 1; ticks <= 256; ticks++ {
		for _, gone := range []int{0, 1, 2, ticks / 2, ticks - 2, ticks - 1} {
			if gone < 0 || gone >= ticks {
				continue
			}
			x, w := made(t, ticks)
			sameGrant(t, x, w, 1, 7, h)
			sameGrant(t, x, w, 2, 6, g)
			for range gone {
				sameTick(t, x, w)
			}
			if e := sameRenew(t, x, w, 7); e != api.OK {
				t.Fatalf("Renew: %v", e)
			}
			l, _ := x.Find(7)
			m, _ := x.Find(6)
			if l.Left != ticks || m.Left != ticks-gone {
				t.Fatalf("%d of %d gone: %+v, %+v", gone, ticks, l, m)
			}
			sameRenew(t, x, w, 7) // twice is no more than once
			sameAnswers(t, x, w)
		}
	}
}

// No such lease: never there, there no more, a number that no badge is. Nothing is changed by asking.
func TestP12_3None(t *testing.T) {
	x, w := made(t, 2)
	none := func(badge int) {
		t.Helper()
		if a, b := sameRenew(t, x, w, badge), sameDrop(t, x, w, badge); a != api.ErrLeaseNone || b != api.ErrLeaseNone {
			t.Errorf("badge %d: %v, %v", badge, a, b)
		}
		sameAnswers(t, x, w)
	}
	none(1)
	sameGrant(t, x, w, 3, 7, h)
	sameGrant(t, x, w, 4, 9, h)
	sameTick(t, x, w)
	for _, badge := range append([]int{1, 3, 4, 6, 8, 10, top}, badBadges...) {
		none(badge)
	}
	sameDrop(t, x, w, 9)
	none(9)
	sameTick(t, x, w)
	none(7)
}

func TestP12_3DropEach(t *testing.T) {
	for first := 1; first <= 8; first++ {
		x, w := made(t, 5)
		for job := 1; job <= 8; job++ {
			sameGrant(t, x, w, job, 100-job, h)
		}
		for i := range 8 {
			if e := sameDrop(t, x, w, 100-(1+(first+i*3)%8)); e != api.OK {
				t.Errorf("Drop: %v", e)
			}
			sameAnswers(t, x, w)
		}
		for range 6 {
			if l := sameTick(t, x, w); len(l) != 0 {
				t.Errorf("dropped, and told: %+v", l)
			}
		}
	}
}

func TestP12_4NoLeases(t *testing.T) {
	x, w := made(t, 1)
	for range 600 {
		if l := sameTick(t, x, w); len(l) != 0 {
			t.Fatalf("Tick: %+v", l)
		}
	}
	sameGrant(t, x, w, 1, 1, h)
	sameAnswers(t, x, w) // the ticks ahead of a Grant are none of its
}

// Those that run out together are told by rising badges, whatever their jobs and the order of their grants.
func TestP12_4Together(t *testing.T) {
	x, w := made(t, 3)
	badges := []int{50, 20, 80, 10, 70, 40, 60, 30}
	for i, badge := range badges[:5] {
		sameGrant(t, x, w, i+1, badge, h)
	}
	sameTick(t, x, w)
	for i, badge := range badges[5:] {
		sameGrant(t, x, w, i+6, badge, g)
	}
	sameRenew(t, x, w, 70)
	var told [][]int
	for range 4 {
		var l []int
		for _, y := range sameTick(t, x, w) {
			l = append(l, y.Badge)
		}
		told = append(told, l)
		sameAnswers(t, x, w)
	}
	want := [][]int{nil, {10, 20, 50, 80}, {30, 40, 60, 70}, nil}
	if !slices.EqualFunc(told, want, slices.Equal[[]int]) {
		t.Errorf("%v, not %v", told, want)
	}
}

func TestP12_5FindChangesNothing(t *testing.T) {
	x, w := made(t, 3)
	sameGrant(t, x, w, 1, 7, h)
	for _, badge := range append([]int{6, 7, 8, top}, badBadges...) {
		for range 3 {
			sameFind(t, x, w, badge)
		}
	}
	sameAnswers(t, x, w)
	for range 3 {
		sameTick(t, x, w)
		sameAnswers(t, x, w)
	}
}

// What Tick has answered is the caller's: to change it, or the room behind it, is seen nowhere, nor does a later call change it.
func TestR4TickAnswersNewMemory(t *testing.T) {
	x, w := made(t, 1)
	var kept, copies [][]api.Lease
	for round := range 20 {
		for job := 1; job <= 1+round%8; job++ {
			sameGrant(t, x, w, job, 1000-10*job+round, h)
		}
		l := sameTick(t, x, w)
		kept, copies = append(kept, l), append(copies, slices.Clone(l))
		sameAnswers(t, x, w)
	}
	for i := range kept {
		if !slices.Equal(kept[i], copies[i]) {
			t.Errorf("%+v became %+v", copies[i], kept[i])
		}
	}
	for i := range kept {
		room := kept[i][:cap(kept[i])]
		for j := range room {
			room[j] = api.Lease{Job: -1}
		}
		for j := i + 1; j < len(kept); j++ {
			if !slices.Equal(kept[j], copies[j]) {
				t.Fatalf("%d and %d share memory", i, j)
			}
		}
	}
	sameAnswers(t, x, w)
}

// A range that is under way has a list that no later Tick's answer reaches, and the other way round.
func TestR4RangeAndTickApart(t *testing.T) {
	x, w := made(t, 1)
	for job := 1; job <= 8; job++ {
		sameGrant(t, x, w, job, 10*job, h)
	}
	ahead, n := w.all(), 0
	for l := range x.All() {
		out := sameTick(t, x, w)
		for i := range out {
			out[i] = api.Lease{}
		}
		if l != ahead[n] {
			t.Errorf("%+v, not %+v", l, ahead[n])
		}
		n++
	}
	if n != 8 {
		t.Errorf("%d told", n)
	}
}

func TestR4TablesAreApart(t *testing.T) {
	a, wa := made(t, 2)
	b, wb := made(t, 3)
	sameGrant(t, a, wa, 1, 7, h)
	sameAnswers(t, b, wb)
	sameGrant(t, b, wb, 1, 7, g)
	sameGrant(t, b, wb, 2, 8, g)
	sameAnswers(t, a, wa)
	sameTick(t, a, wa)
	sameTick(t, a, wa)
	sameAnswers(t, b, wb)
	sameDrop(t, b, wb, 7)
	sameAnswers(t, a, wa)
}
