package coord_test

import (
	"math/rand"
	"slices"
	"strings"
	"testing"

	"gaffer/api"
	"gaffer/coord"
	"gaffer/disk"
)

// R2: a call that is refused, and one that says nothing, changes nothing that a later call could tell: of two that stand alike one is refused a lot, and then both go on.
func TestR2Refused(t *testing.T) {
	for seed := range int64(20) {
		rnd := rand.New(rand.NewSource(seed))
		b := made(t, anyConfig(rnd))
		for range 60 {
			b.anyCall(rnd)
		}
		twin := b.clone()
		for _, p := range []string{"", "x", long(1025)} {
			b.submit(p)
		}
		for len(b.x.View().Jobs) == 8 && rnd.Intn(3) > 0 {
			b.submit(small())
		}
		for _, from := range nobody(b.c.Runners) {
			for _, m := range all() {
				b.says(from, m, api.Msg{})
			}
		}
		for k := range b.c.Runners {
			s, n := b.next(k)
			life := max(1, b.w.desks[k].Life)
			b.bytes(at(k, life), "no message")
			b.hear(at(k, life), poll(max(1, s)+1000, n))
			b.hear(at(k, life), poll(max(1, s), n+1))
			if n > 1 {
				b.hear(at(k, life), poll(s, n-1))
			}
			if life > 1 {
				b.hear(at(k, life-1), hello())
			}
			b.hear(at(k, life), chunk(b.w.last+1, 0, "a"))
		}
		goOn(b, twin, seed)
	}
}

// goOn does the same calls to both: they answer alike, as each answers like its words.
func goOn(a, b *both, seed int64) {
	a.t.Helper()
	one, other := rand.New(rand.NewSource(seed)), rand.New(rand.NewSource(seed))
	for range 40 {
		a.anyCall(one)
		b.anyCall(other)
	}
	a.tell()
	b.tell()
	if !sameView(a.x.View(), b.x.View()) || !slices.Equal(a.x.Leases(), b.x.Leases()) || !slices.Equal(a.x.Sessions(), b.x.Sessions()) {
		a.t.Fatalf("%+v, and %+v", a.x.View(), b.x.View())
	}
	a.sameDisk()
	b.sameDisk()
	if !slices.Equal(a.d.Sectors(), b.d.Sectors()) {
		a.t.Fatal("other sectors")
	}
}

// spoil writes over a list and the room behind it.
func spoil[T any](l []T, x T) {
	l = l[:cap(l)]
	for i := range l {
		l[i] = x
	}
}

// R4: what is answered is new memory, with the room behind it; no two lists of one answer share any; and it does not change later.
func TestR4Answered(t *testing.T) {
	c := config()
	c.Window, c.Lease = 8, 200
	b := working(t, c, 2, 2)
	for round := range 4 {
		for k, badge := range []int{3, 4} {
			for i := 3; i >= 0; i-- {
				b.hear(at(0, 1), chunk(badge, 4*round+i, []string{"a", "b"}[k]))
			}
		}
		kept, leases, desks := b.x.View(), b.x.Leases(), b.x.Sessions()
		was, wasLeases, wasDesks := copyView(kept), slices.Clone(leases), slices.Clone(desks)
		told := b.clone().x.Told()
		wasTold := copyChanges(told)
		b.tick()
		s, n := b.next(1)
		b.hear(at(1, 1), beat(s, n, 5))
		b.hear(at(0, 1), chunk(3, 4*round+4, "later"))
		if !sameView(kept, was) || !slices.Equal(leases, wasLeases) || !slices.Equal(desks, wasDesks) || !sameChanges(told, wasTold) {
			t.Fatal("what was answered has changed")
		}
		v := b.x.View()
		for i := range v.Jobs {
			others := copyView(v)
			spoil(v.Jobs[i].Log, "spoilt")
			for j := range v.Jobs {
				if j != i && !slices.Equal(v.Jobs[j].Log, others.Jobs[j].Log) {
					t.Fatalf("the logs %d and %d share memory", i, j)
				}
			}
		}
		spoil(v.Jobs, api.Place{Program: "spoilt"})
		spoil(b.x.Leases(), api.Lease{Job: 9, Badge: 9})
		spoil(b.x.Sessions(), api.Desk{Life: 9, Reply: "spoilt"})
		b.same()
		twin := b.clone()
		l := b.tell()
		for i := range l {
			others := copyChanges(l)
			spoil(l[i].Texts, "spoilt")
			for j := range l {
				if j != i && !slices.Equal(l[j].Texts, others[j].Texts) {
					t.Fatalf("the texts of %d and %d share memory", i, j)
				}
			}
		}
		spoil(l, api.Change{Kind: 9})
		b.same()
		b.hear(at(0, 1), chunk(4, 4*round+4, "more"))
		if slices.ContainsFunc(l[:cap(l)], func(x api.Change) bool { return x.Kind != 9 }) {
			t.Fatal("a change was told into a list that was answered")
		}
		spoil(l, api.Change{Kind: 8})
		twin.tell() // its list is its own
		b.tell()
		said, _ := b.x.Hear(at(0, 1), encoded(t, chunk(3, 0, "a")))
		again := slices.Clone(said)
		spoil(said, api.Datagram{Data: "spoilt"})
		if got, _ := b.x.Hear(at(0, 1), encoded(t, chunk(3, 0, "a"))); !slices.Equal(got, again) {
			t.Fatalf("%+v, not %+v", got, again)
		}
		b.same()
		b.revive()
		b.says(at(0, 1), hello(), welcome(b.w.last+1))
		b.says(at(1, 1), hello(), welcome(b.w.last+1))
		b.tell()
	}
}

// R7: a clone and its object go apart: neither sees what comes at the other, and each answers as it would have without that.
func TestR7Apart(t *testing.T) {
	c := config()
	c.Window = 4
	start := working(t, c, 1, 1)
	start.submit(small())
	start.hear(at(0, 1), chunk(3, 1, "held"))
	start.ticks(3)
	doings := []func(b *both){
		func(b *both) { b.submit(program(5, 5)) },
		func(b *both) { b.tick() },
		func(b *both) { b.hear(at(0, 2), hello()) },
		func(b *both) { b.hear(at(0, 1), poll(1, 2)) },
		func(b *both) { b.hear(at(0, 1), beat(1, 2, 3)) },
		func(b *both) { b.hear(at(0, 1), done(1, 2, 3, 0, api.Result{Bits: 1})) },
		func(b *both) { b.hear(at(0, 1), chunk(3, 0, "first")) },
		func(b *both) { b.hear(at(0, 1), chunk(3, 2, "second")) },
		func(b *both) { b.hear(at(0, 1), chunk(3, 0, "other")) },
		func(b *both) { b.tell() },
		func(b *both) { b.arm(1, 5); b.submit(small()) },
	}
	for _, one := range doings {
		for _, other := range doings {
			a := start.clone()
			b := a.clone()
			d := b.clone()
			one(a)
			b.same()
			d.same()
			other(b)
			a.same()
			d.same()
			for _, x := range []*both{a, b, d} { // what they keep unseen: the badges, what is held, what is told
				x.hear(at(0, 1), chunk(3, 0, "last"))
				x.hear(at(1, 5), hello())
				x.tick()
				x.tell()
				x.sameDisk()
			}
		}
	}
	start.same()
}

// Many coordinators and clones of them, on disks of their own, called in any order; some die.
func TestR7WalkOfMany(t *testing.T) {
	for seed := range int64(25) {
		rnd := rand.New(rand.NewSource(seed))
		all := []*both{made(t, anyConfig(rnd)), working(t, config(), 1, 2)}
		for range 250 {
			b := all[rnd.Intn(len(all))]
			if rnd.Intn(20) == 0 && len(all) < 10 {
				all = append(all, b.clone())
			}
			if rnd.Intn(60) == 0 && !b.d.Dead() {
				b.arm(1+rnd.Intn(2), rnd.Intn(129))
			}
			b.anyCall(rnd)
		}
		for _, b := range all {
			b.same()
			b.sameDisk()
			b.tell()
			b.revive()
		}
	}
}

// P18.9: where somebody else writes to the disk, or a clone's has not the same, nothing is promised but R1: every call ends, and none panics.
func TestP18_9R1Ends(t *testing.T) {
	for seed := range int64(40) {
		rnd := rand.New(rand.NewSource(seed))
		c := anyConfig(rnd)
		b := working(t, c, 1+rnd.Intn(2))
		d, _ := disk.New([]int{1, 2, 3, 4, 6, 321, 322, 323, 1026}[rnd.Intn(9)])
		for _, x := range []*coord.Coord{b.x.Clone(d), b.x} {
			for range 60 {
				if rnd.Intn(2) == 0 {
					b.d.Write(rnd.Intn(12), strings.Repeat(string([]byte{byte(rnd.Intn(256))}), 128))
				}
				x.Submit(small())
				x.Tick()
				slot := rnd.Intn(c.Runners)
				x.Hear(at(slot, 1), anyBytes(rnd, b, slot))
				x.View()
				x.Leases()
				x.Sessions()
				x.Told()
				x.Dead()
			}
		}
		coord.Open(c, b.d)
		coord.Open(c, d)
		coord.New(c, d)
	}
}
