package lease_test

import (
	"math/rand"
	"slices"
	"testing"

	"gaffer/api"
	"gaffer/lease"
)

// filled has leases of the first jobs, under badges that are in no order, each with a number of ticks of its own left.
func filled(t *testing.T, size int) (*lease.Table, *words) {
	t.Helper()
	x, w := made(t, 12)
	for job := 1; job <= size; job++ {
		sameGrant(t, x, w, job, 1+job*5%9, api.Addr{Node: 1 + job, Life: job})
		sameTick(t, x, w)
	}
	return x, w
}

// What it tells is what there is when a range begins, not when All was called.
func TestR6ToldAnew(t *testing.T) {
	x, w := made(t, 3)
	all := x.All()
	if all == nil {
		t.Fatal("nil")
	}
	calls := []func(){
		func() {},
		func() { sameGrant(t, x, w, 1, 7, h) },
		func() { sameGrant(t, x, w, 2, 5, g) },
		func() { sameTick(t, x, w) },
		func() { sameRenew(t, x, w, 7) },
		func() { sameTick(t, x, w) },
		func() { sameDrop(t, x, w, 7) },
		func() { sameTick(t, x, w) },
	}
	for i, call := range calls {
		call()
		for range 2 {
			if got := slices.Collect(all); !slices.Equal(got, w.all()) {
				t.Fatalf("%d: %+v, not %+v", i, got, w.all())
			}
		}
	}
}

func TestR6LeftEarly(t *testing.T) {
	for size := range 9 {
		x, w := filled(t, size)
		all, want := x.All(), w.all()
		for stop := range size {
			var got []api.Lease
			for l := range all {
				if got = append(got, l); len(got) == stop+1 {
					break
				}
			}
			if !slices.Equal(got, want[:stop+1]) {
				t.Errorf("%+v, not %+v", got, want[:stop+1])
			}
			// Called as a function: it must not go on when it was told to stop.
			count := 0
			all(func(api.Lease) bool { count++; return count <= stop })
			if count != stop+1 {
				t.Errorf("%d told, not %d", count, stop+1)
			}
			sameAnswers(t, x, w)
		}
	}
}

// A range that is broken off by a panic of the one who ranges leaves the table as it is.
func TestR6LeftByPanic(t *testing.T) {
	x, w := filled(t, 4)
	func() {
		defer func() { recover() }()
		for range x.All() {
			panic("left")
		}
	}()
	sameAnswers(t, x, w)
	sameTick(t, x, w)
	sameAnswers(t, x, w)
}

func TestR6WithinItself(t *testing.T) {
	x, w := filled(t, 8)
	all, want, outer := x.All(), w.all(), []api.Lease{}
	for l := range all {
		outer = append(outer, l)
		if inner := slices.Collect(all); !slices.Equal(inner, want) {
			t.Errorf("%+v, not %+v", inner, want)
		}
	}
	if !slices.Equal(outer, want) {
		t.Errorf("%+v, not %+v", outer, want)
	}
}

// Whatever is done to the table on the way, a range tells what was there at its beginning, and one that begins within it what is there then.
func TestR6ChangedOnTheWay(t *testing.T) {
	for seed := range int64(300) {
		rnd := rand.New(rand.NewSource(seed))
		x, w := filled(t, 1+rnd.Intn(8))
		all, want, outer := x.All(), w.all(), []api.Lease{}
		for l := range all {
			outer = append(outer, l)
			for range rnd.Intn(4) {
				anyCall(t, x, w, rnd)
			}
			if inner := slices.Collect(all); !slices.Equal(inner, w.all()) {
				t.Fatalf("seed %d: %+v, not %+v", seed, inner, w.all())
			}
		}
		if !slices.Equal(outer, want) {
			t.Fatalf("seed %d: %+v, not %+v", seed, outer, want)
		}
		sameAnswers(t, x, w)
	}
}

// Emptied and filled anew while it is gone through: by drops, by ticks.
func TestR6EmptiedOnTheWay(t *testing.T) {
	for _, byTicks := range []bool{false, true} {
		x, w := filled(t, 8)
		want, got := w.all(), []api.Lease{}
		for l := range x.All() {
			got = append(got, l)
			for _, y := range w.all() {
				if !byTicks {
					sameDrop(t, x, w, y.Badge)
				}
			}
			for len(w.all()) > 0 {
				sameTick(t, x, w)
			}
			for job := 1; job <= 8; job++ {
				sameGrant(t, x, w, job, 100+job, g)
			}
		}
		if !slices.Equal(got, want) {
			t.Errorf("%+v, not %+v", got, want)
		}
		sameAnswers(t, x, w)
	}
}

// An iterator is of its own table, whatever clones do.
func TestR6OfItsOwnTable(t *testing.T) {
	x, w := filled(t, 5)
	all, want := x.All(), w.all()
	c, v := x.Clone(), w.clone()
	theirs := c.All()
	n := 0
	for l := range all {
		if l != want[n] {
			t.Errorf("%+v, not %+v", l, want[n])
		}
		n++
		sameDrop(t, c, v, l.Badge)
		if got := slices.Collect(theirs); !slices.Equal(got, v.all()) {
			t.Errorf("the clone's: %+v, not %+v", got, v.all())
		}
	}
	sameAnswers(t, x, w)
	sameAnswers(t, c, v)
}

// Of two clones each answers as its own calls make it, whichever is changed first, whatever stands in them.
func TestR7EachCallAtOneOfTwo(t *testing.T) {
	calls := []func(x *lease.Table, w *words){
		func(x *lease.Table, w *words) { sameTick(t, x, w) },
		func(x *lease.Table, w *words) { sameGrant(t, x, w, 8, 100, g) },
		func(x *lease.Table, w *words) { sameRenew(t, x, w, 6) },
		func(x *lease.Table, w *words) { sameDrop(t, x, w, 6) },
		func(x *lease.Table, w *words) {
			for range 12 {
				sameTick(t, x, w)
			}
		},
	}
	for size := range 9 {
		for _, first := range calls {
			for _, second := range calls {
				x, w := filled(t, size)
				c, v := x.Clone(), w.clone()
				if c == nil || c == x {
					t.Fatalf("Clone: %p of %p", c, x)
				}
				sameAnswers(t, c, v)
				first(x, w)
				sameAnswers(t, c, v)
				second(c, v)
				sameAnswers(t, x, w)
				sameAnswers(t, c, v)
			}
		}
	}
}

// Many tables and clones of them, called in any order: each goes its own way.
func TestR7WalkOfMany(t *testing.T) {
	for seed := range int64(60) {
		rnd := rand.New(rand.NewSource(seed))
		var xs []*lease.Table
		var ws []*words
		for range 400 {
			switch k := rnd.Intn(20); {
			case len(xs) == 0 || k == 0:
				x, w := made(t, 1+rnd.Intn(5))
				xs, ws = append(xs, x), append(ws, w)
			case k == 1:
				i := rnd.Intn(len(xs))
				xs, ws = append(xs, xs[i].Clone()), append(ws, ws[i].clone())
			default:
				i := rnd.Intn(len(xs))
				anyCall(t, xs[i], ws[i], rnd)
			}
		}
		for i := range xs {
			sameAnswers(t, xs[i], ws[i])
		}
	}
}
