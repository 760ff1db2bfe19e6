package coord_test

import (
	"strings"
	"testing"

	"gaffer/api"
)

// nobody are addresses of none of a config's runners.
func nobody(runners int) []api.Addr {
	l := []api.Addr{{}, {Node: 1}, {Node: 0, Life: 1}, {Node: 1, Life: 1}, {Node: 2 + runners, Life: 1}, {Node: 3 + runners, Life: 1}, {Node: 10, Life: 1}, {Node: 2}, {Node: 1 + runners}, {Node: 1<<32 + 2, Life: 1}}
	for _, n := range far {
		l = append(l, api.Addr{Node: n, Life: 1}, api.Addr{Node: 2, Life: n}, api.Addr{Node: n, Life: n})
	}
	return l
}

// all are messages of all sixteen kinds that may be.
func all() []api.Msg {
	return []api.Msg{
		hello(), poll(1, 1), poll(1, 2), beat(1, 2, 2), done(1, 2, 2, 0, api.Result{}), chunk(2, 0, "a"),
		{Kind: api.MsgPut, Job: 1, Badge: 2}, {Kind: api.MsgPut, Job: 1, Badge: 2, Index: 1, Text: "a"},
		welcome(1), welcome(2), bare(api.MsgStale, 1, 2), offer(1, 2, 1, 2, small()), bare(api.MsgNone, 1, 2), bare(api.MsgAlive, 1, 2),
		bare(api.MsgGone, 1, 2), bare(api.MsgRecorded, 1, 2), ack(2, 0), ack(2, 1),
		{Kind: api.MsgTook, Job: 1, Badge: 2, Count: 1}, {Kind: api.MsgRefused, Job: 1, Badge: 2},
	}
}

// From nobody nothing is heeded.
func TestP18_7Addresses(t *testing.T) {
	for runners := 1; runners <= 8; runners++ {
		c := config()
		c.Runners = runners
		b := working(t, c, 1)
		for _, from := range nobody(runners) {
			for _, m := range all() {
				b.says(from, m, api.Msg{})
			}
		}
		b.tells()
		for k := range runners { // the last one is somebody, in each life
			b.says(at(k, top-1), hello(), welcome(3+2*k))
			b.says(at(k, top), hello(), welcome(4+2*k))
			b.says(at(k, top-1), hello(), api.Msg{})
		}
	}
}

// What is no message for a coordinator.
func TestP18_7Bytes(t *testing.T) {
	b := working(t, config(), 1)
	b.submit(small())
	b.tell()
	l := []string{"", "\x00", "\x11", "\x01\x00", "\x02", "\x02\x01", "\x02\x01\x00", "\x02\x00\x01", "\x81\x00", "\x80", long(2048), long(2049), "\x01" + long(2048), "\xff\xff", "hello", nums(2, top+1, 1), nums(5, 2, 32) + text("a"), nums(5, 2, 0) + text(long(33)), nums(4, 1, 2, 2, 33, 0) + bits(0), nums(4, 1, 2, 2, 0, 8) + bits(0), nums(4, 1, 2, 2, 0, 1) + bits(1)}
	for _, m := range all() {
		s := encoded(t, m)
		if m.Kind > api.MsgChunk {
			l = append(l, s)
		}
		for n := range s { // each beginning of a message
			l = append(l, s[:n])
		}
		l = append(l, s+"\x00", s+s)
	}
	for _, data := range l {
		for _, from := range []api.Addr{at(0, 1), at(1, 1), at(0, 2)} {
			if said, e := b.bytes(from, data); said != "" || e != api.OK {
				t.Fatalf("to %q: %q, %v", data, said, e)
			}
		}
	}
	b.tells()
}

func TestP18_7Hello(t *testing.T) {
	c := config()
	c.Runners, c.Block = 3, 4
	b := made(t, c)
	b.says(at(1, 5), hello(), welcome(1))
	b.tells(reserve(4))
	b.says(at(1, 5), hello(), welcome(1))
	b.says(at(1, 4), hello(), api.Msg{})
	b.says(at(1, 1), hello(), api.Msg{})
	b.says(at(0, 1), hello(), welcome(2))
	b.says(at(2, top), hello(), welcome(3))
	b.says(at(1, 5), poll(1, 1), bare(api.MsgNone, 1, 1))
	b.says(at(1, 5), hello(), welcome(1)) // its numbers stay
	b.says(at(1, 5), poll(1, 1), bare(api.MsgNone, 1, 1))
	b.says(at(1, 6), hello(), welcome(4)) // what was known of the slot is gone
	b.says(at(1, 5), poll(1, 1), bare(api.MsgStale, 1, 1))
	b.says(at(1, 5), poll(1, 2), bare(api.MsgStale, 1, 2))
	b.says(at(1, 5), poll(4, 1), bare(api.MsgStale, 4, 1))
	b.says(at(1, 6), poll(1, 2), bare(api.MsgStale, 1, 2))
	b.says(at(1, 6), poll(4, 2), api.Msg{})
	b.says(at(1, 6), poll(4, 1), bare(api.MsgNone, 4, 1))
	b.says(at(1, 5), hello(), api.Msg{})
	b.tells()
	b.says(at(0, 3), hello(), welcome(5))
	b.tells(reserve(8))
	b.says(at(2, top), hello(), welcome(3))
	b.says(at(2, top-1), hello(), api.Msg{})
}

// Sessions and grants are drawn from one counter; what is reserved stands ahead of what is made with the badge, whichever of them needs it.
func TestP18_7Draw(t *testing.T) {
	for block := 1; block <= 16; block++ {
		c := config()
		c.Block, c.Attempts, c.Lease = block, 8, 1
		b := made(t, c)
		b.submit(small())
		b.tell()
		last := 0
		draws := func(more ...api.Change) {
			t.Helper()
			last++
			if last%block == 1 || block == 1 {
				more = append([]api.Change{reserve(last + block - 1)}, more...)
			}
			b.tells(more...)
		}
		for life := 1; life <= 40; life++ {
			b.says(at(1, life), hello(), welcome(last+1))
			draws()
			if life%5 == 0 && b.w.view().Jobs[0].Row.Status == 1 {
				b.says(at(1, life), poll(last, 1), offer(last, 1, 1, last+1, small()))
				draws(granted(1, last+1, 1, life))
				b.tick()
				b.tells(expired(last))
			}
		}
	}
}

// Requests of another life, session or slot are Stale, whatever they ask for, and act on nothing.
func TestP18_7Stale(t *testing.T) {
	c := config()
	c.Lease = 200
	b := working(t, c, 1, 1)
	b.submit(small())
	b.tell()
	try := func(from api.Addr, s, n int) {
		t.Helper()
		for _, m := range []api.Msg{poll(s, n), beat(s, n, 3), beat(s, n, 4), done(s, n, 3, 0, api.Result{}), done(s, n, 4, 0, api.Result{})} {
			b.says(from, m, bare(api.MsgStale, s, n))
		}
	}
	for _, n := range []int{1, 2, 3, 9, top} {
		for _, s := range []int{3, 4, 9, top} {
			try(at(0, 1), s, n)
			try(at(1, 1), s, n)
		}
		try(at(0, 1), 2, n)
		try(at(1, 1), 1, n)
		try(at(0, 2), 1, n)
		try(at(1, top), 2, n)
	}
	b.tells()
	b.revive() // what was known of sessions is gone with the power
	for _, n := range []int{1, 2, 3} {
		try(at(0, 1), 1, n)
		try(at(1, 1), 2, n)
	}
	o := made(t, c) // nobody is known
	o.says(at(0, 1), poll(1, 1), bare(api.MsgStale, 1, 1))
	o.says(at(1, top), done(top, top, top, 32, api.Result{}), bare(api.MsgStale, top, top))
}

// The reply of the last number is said again, whatever is asked under that number then; no other number but the next one is heeded.
func TestP18_7Again(t *testing.T) {
	b := working(t, config(), 1)
	b.submit(program(7, 3))
	b.tell()
	a := at(0, 1)
	again := func(s, n int, want api.Msg) {
		t.Helper()
		for _, m := range []api.Msg{poll(s, n), beat(s, n, 2), done(s, n, 2, 0, api.Result{}), beat(s, n, 99)} {
			b.says(a, m, want)
		}
		for _, o := range []int{n - 1, n - 2, n + 2, n + 3, n + 256, n + 1<<32, top} {
			if o < 1 {
				continue
			}
			for _, m := range []api.Msg{poll(s, o), beat(s, o, 2), done(s, o, 2, 0, api.Result{})} {
				b.says(a, m, api.Msg{})
			}
		}
	}
	again(1, 1, offer(1, 1, 1, 2, small()))
	b.tells()
	b.says(a, poll(1, 2), offer(1, 2, 2, 3, program(7, 3)))
	b.tells(reserve(4), granted(2, 3, 0, 1))
	again(1, 2, offer(1, 2, 2, 3, program(7, 3)))
	b.says(a, poll(1, 3), bare(api.MsgNone, 1, 3))
	b.submit(small())
	again(1, 3, bare(api.MsgNone, 1, 3))
	b.says(a, beat(1, 4, 3), bare(api.MsgAlive, 1, 4))
	again(1, 4, bare(api.MsgAlive, 1, 4))
	b.ticks(4)
	again(1, 4, bare(api.MsgAlive, 1, 4)) // though it is gone by now
	b.says(a, beat(1, 5, 3), bare(api.MsgGone, 1, 5))
	again(1, 5, bare(api.MsgGone, 1, 5))
	b.says(a, poll(1, 6), offer(1, 6, 1, 4, small()))
	b.says(a, done(1, 7, 4, 1, api.Result{}), bare(api.MsgGone, 1, 7))
	again(1, 7, bare(api.MsgGone, 1, 7))
	b.says(a, done(1, 8, 4, 0, api.Result{Bits: 9}), bare(api.MsgRecorded, 1, 8))
	b.tell()
	again(1, 8, bare(api.MsgRecorded, 1, 8))
	b.tells()
	// A beat that is said again does not renew.
	b.says(a, poll(1, 9), offer(1, 9, 2, 5, program(7, 3)))
	b.says(a, beat(1, 10, 5), bare(api.MsgAlive, 1, 10))
	b.ticks(3)
	b.says(a, beat(1, 10, 5), bare(api.MsgAlive, 1, 10))
	if l := b.x.Leases(); len(l) != 1 || l[0].Left != 1 {
		t.Errorf("Leases: %+v", l)
	}
}

func TestP18_7Poll(t *testing.T) {
	c := config()
	c.Attempts, c.Lease = 3, 2
	b := made(t, c)
	b.says(at(0, 3), hello(), welcome(1))
	b.says(at(1, 9), hello(), welcome(2))
	b.says(at(0, 3), poll(1, 1), bare(api.MsgNone, 1, 1))
	for i := range 3 {
		b.submit(program(i+1, i))
	}
	b.tell()
	b.says(at(1, 9), poll(2, 1), offer(2, 1, 1, 3, program(1, 0)))
	b.tells(reserve(4), granted(1, 3, 1, 9))
	b.says(at(0, 3), poll(1, 2), offer(1, 2, 2, 4, program(2, 1)))
	b.tells(granted(2, 4, 0, 3))
	b.tick()
	b.says(at(0, 3), poll(1, 3), offer(1, 3, 3, 5, program(3, 2))) // one that has a job may ask for another one
	b.says(at(0, 3), poll(1, 4), bare(api.MsgNone, 1, 4))
	b.says(at(0, 3), chunk(4, 0, "a"), ack(4, 1))
	b.tick()
	b.tell()
	b.says(at(1, 9), poll(2, 2), offer(2, 2, 1, 6, program(1, 0)))
	b.says(at(1, 9), poll(2, 3), offer(2, 3, 2, 7, program(2, 1)))
	b.tells(granted(1, 6, 1, 9), reserve(8), granted(2, 7, 1, 9))
	if p := b.x.View().Jobs[1]; len(p.Log) != 0 {
		t.Errorf("%+v", p)
	}
	b.says(at(1, 9), chunk(7, 1, "b"), ack(7, 0)) // an empty stitcher
	b.says(at(1, 9), chunk(7, 0, "c"), ack(7, 2))
	if l := b.x.Leases(); len(l) != 3 || l[0].Left != 1 || l[1].Left != 2 || l[2].Left != 2 {
		t.Errorf("Leases: %+v", l)
	}
}

// What comes ahead of its turn is held till its badge runs out; the next attempt has nothing of it.
func TestP18_7EmptyStitcher(t *testing.T) {
	b := working(t, config(), 1)
	b.says(at(0, 1), chunk(2, 1, "old"), ack(2, 0))
	b.ticks(4)
	b.says(at(0, 1), poll(1, 2), offer(1, 2, 1, 3, small()))
	b.says(at(0, 1), chunk(3, 0, "new"), ack(3, 1))
	b.says(at(0, 1), chunk(2, 0, "old"), api.Msg{})
	b.says(at(0, 1), chunk(3, 1, "new"), ack(3, 2))
}

// badges about those that are there.
func badges() []int { return []int{1, 2, 3, 4, 5, 6, 7, 1<<32 + 3, top} }

func TestP18_7Beat(t *testing.T) {
	b := working(t, config(), 2, 1) // the sessions 1 and 2; the badges 3, 4 of the slot 0, 5 of the slot 1
	b.ticks(2)
	for k := range 2 {
		for _, badge := range badges() {
			s, n := b.next(k)
			want := bare(api.MsgGone, s, n)
			if k == 0 && (badge == 3 || badge == 4) || k == 1 && badge == 5 {
				want.Kind = api.MsgAlive
			}
			ahead := b.x.Leases()
			b.says(at(k, 1), beat(s, n, badge), want)
			for i, l := range b.x.Leases() {
				if want.Kind == api.MsgAlive && l.Badge == badge {
					ahead[i].Left = 4
				}
				if l != ahead[i] {
					t.Fatalf("the slot %d, the badge %d: %+v", k, badge, l)
				}
			}
		}
	}
	// Another life of the slot does not hold it.
	b.says(at(0, 2), hello(), welcome(6))
	b.says(at(0, 2), beat(6, 1, 3), bare(api.MsgGone, 6, 1))
	// One that is renewed in time is never told.
	b.tell()
	for range 10 {
		s, n := b.next(1)
		b.ticks(3)
		b.says(at(1, 1), beat(s, n, 5), bare(api.MsgAlive, s, n))
	}
	b.tells(expired(3), expired(4))
}

func TestP18_7Done(t *testing.T) {
	results := []api.Result{{}, {Bits: 1}, {Bits: 1 << 63}, {Bits: 0x7ff8000000000001}, {Code: 1}, {Code: 7}}
	for _, x := range results {
		for have := range 4 {
			b := working(t, config(), 2, 1)
			for i := range have {
				b.says(at(0, 1), chunk(3, i, "x"), ack(3, i+1))
			}
			b.says(at(0, 1), chunk(3, have+1, "held"), ack(3, have)) // what is held does not count
			b.tell()
			for _, count := range []int{0, 1, 2, 3, 4, 5, 31, 32} {
				if count != have {
					s, n := b.next(0)
					b.says(at(0, 1), done(s, n, 3, count, x), bare(api.MsgGone, s, n))
				}
			}
			for _, badge := range badges() {
				if badge != 5 { // under another badge, from another runner
					s, n := b.next(1)
					b.says(at(1, 1), done(s, n, badge, have, x), bare(api.MsgGone, s, n))
				}
			}
			b.tells()
			s, n := b.next(0)
			b.says(at(0, 1), done(s, n, 3, have, x), bare(api.MsgRecorded, s, n))
			b.tells(settled(3, x))
			r := b.x.View().Jobs[0].Row
			if r != (api.Row{Job: 1, Status: api.Recorded, Attempts: 1, Badge: 3, Result: x}) || len(b.x.Leases()) != 2 {
				t.Fatalf("%+v, %+v", r, b.x.Leases())
			}
			// From then on whoever asks under that badge is told so, with whatever result: the first one stays.
			for k := range 2 {
				s, n := b.next(k)
				b.says(at(k, 1), done(s, n, 3, 32, api.Result{Code: 5}), bare(api.MsgRecorded, s, n))
				b.says(at(k, 1), beat(s, n+1, 3), bare(api.MsgGone, s, n+1))
				b.says(at(k, 1), chunk(3, have, "late"), api.Msg{})
			}
			b.says(at(0, 2), hello(), welcome(6))
			b.says(at(0, 2), done(6, 1, 3, 0, api.Result{}), bare(api.MsgRecorded, 6, 1))
			b.tells()
			b.ticks(5)
			b.tells(expired(4), expired(5))
		}
	}
}

// A result that comes when the job is queued again, lost, or another one's.
func TestP18_7DoneLate(t *testing.T) {
	b := working(t, config(), 1, 0)
	b.ticks(4)
	b.says(at(0, 1), done(1, 2, 3, 0, api.Result{}), bare(api.MsgGone, 1, 2))
	b.says(at(1, 1), poll(2, 1), offer(2, 1, 1, 4, small()))
	b.says(at(0, 1), done(1, 3, 3, 0, api.Result{}), bare(api.MsgGone, 1, 3))
	b.says(at(0, 1), done(1, 4, 4, 0, api.Result{}), bare(api.MsgGone, 1, 4))
	o := b.clone()
	b.ticks(4)
	b.says(at(1, 1), done(2, 2, 4, 0, api.Result{}), bare(api.MsgGone, 2, 2))
	if r := b.x.View().Jobs[0].Row; r.Status != api.Lost {
		t.Errorf("%+v", r)
	}
	o.says(at(1, 1), done(2, 2, 4, 0, api.Result{}), bare(api.MsgRecorded, 2, 2))
	o.says(at(0, 1), done(1, 5, 3, 0, api.Result{}), bare(api.MsgGone, 1, 5)) // its own badge is not the one under which it is recorded
	o.says(at(0, 1), done(1, 6, 4, 0, api.Result{}), bare(api.MsgRecorded, 1, 6))
}

func TestP18_7Chunk(t *testing.T) {
	b := working(t, config(), 1, 1)
	for _, from := range []api.Addr{at(0, 1), at(1, 1), at(0, 2), at(1, 2)} {
		for _, badge := range badges() {
			if from == at(0, 1) && badge == 3 || from == at(1, 1) && badge == 4 {
				continue
			}
			for _, index := range []int{0, 1, 31} {
				b.says(from, chunk(badge, index, "x"), api.Msg{})
			}
		}
	}
	b.tells()
	a := at(0, 1)
	b.says(a, chunk(3, 2, "far"), ack(3, 0)) // outside the window
	b.says(a, chunk(3, 31, "far"), ack(3, 0))
	b.says(a, chunk(3, 1, "b"), ack(3, 0))
	b.says(a, chunk(3, 1, "other"), ack(3, 0)) // the first one stays
	b.tells()
	b.says(a, chunk(3, 0, "a"), ack(3, 2))
	b.tells(logged(3, "a", "b"))
	b.says(a, chunk(3, 0, "other"), ack(3, 2)) // it is there already
	b.says(a, chunk(3, 1, "b"), ack(3, 2))
	b.says(a, chunk(3, 2, ""), ack(3, 3))
	b.says(a, chunk(3, 3, long(32)), ack(3, 4))
	b.tells(logged(3, ""), logged(3, long(32)))
	b.says(at(1, 1), chunk(4, 0, "z"), ack(4, 1)) // each job has its own
	b.tells(logged(4, "z"))
	// A chunk does not renew the lease, and asks for no session.
	b.ticks(3)
	b.says(a, chunk(3, 4, "e"), ack(3, 5))
	b.tell()
	b.tick()
	b.tells(expired(3), expired(4))
}

// Windows of all sizes, and the end of a log.
func TestP18_7ChunkWindows(t *testing.T) {
	for window := 1; window <= 8; window++ {
		c := config()
		c.Window, c.Lease = window, 256
		b := working(t, c, 1)
		a, have := at(0, 1), 0
		for have < 32 {
			for index := range 32 {
				if index != have {
					b.says(a, chunk(2, index, strings.Repeat("x", index)), ack(2, have))
				}
			}
			b.tells()
			b.says(a, chunk(2, have, strings.Repeat("x", have)), ack(2, min(32, have+window)))
			have = min(32, have+window)
			if l := b.tell(); len(l) != 1 || l[0].Kind != api.ChLog {
				t.Fatalf("Told: %+v", l)
			}
		}
		for i, s := range b.x.View().Jobs[0].Log {
			if s != strings.Repeat("x", i) {
				t.Fatalf("the text %d: %q", i, s)
			}
		}
		for index := range 32 {
			b.says(a, chunk(2, index, "y"), ack(2, 32))
		}
		b.says(a, done(1, 2, 2, 31, api.Result{}), bare(api.MsgGone, 1, 2))
		b.says(a, done(1, 3, 2, 32, api.Result{}), bare(api.MsgRecorded, 1, 3))
	}
}

// One that was held in memory ahead of its turn is gone with the power; what was stored is not.
func TestP18_7ChunkBehindOpen(t *testing.T) {
	c := config()
	c.Window = 3
	b := working(t, c, 1)
	b.says(at(0, 1), chunk(2, 0, "a"), ack(2, 1))
	b.says(at(0, 1), chunk(2, 2, "c"), ack(2, 1))
	b.revive()
	b.says(at(0, 1), chunk(2, 1, "b"), ack(2, 2))
	b.says(at(0, 1), chunk(2, 0, "x"), ack(2, 2))
	b.says(at(0, 1), chunk(2, 2, "c"), ack(2, 3))
	b.tells(logged(2, "b"), logged(2, "c"))
}

// The last badges: behind them there is no session and no grant, but all else goes on.
func TestP18_7NoBadgeIsLeft(t *testing.T) {
	for _, block := range []int{1, 2, 3, 16} {
		for left := range 4 {
			c := config()
			c.Block, c.Attempts = block, 8
			v := api.View{Reserved: top - left, Jobs: []api.Place{
				{Row: api.Row{Job: 1, Status: 1}, Program: small()},
				{Row: api.Row{Job: 2, Status: 1, Attempts: 1, Badge: top - 5}, Program: small()},
				{Row: api.Row{Job: 3, Status: 2, Attempts: 1, Badge: top - 4, Holder: at(0, 1)}, Program: small()},
			}}
			b := standing(t, c, v)
			drawn := 0
			if left > 0 {
				b.says(at(0, 1), hello(), welcome(top-left+1))
				drawn++
			} else {
				b.says(at(0, 1), hello(), api.Msg{})
			}
			for drawn > 0 && drawn < left {
				s, n := b.next(0)
				b.says(at(0, 1), poll(s, n), offer(s, n, drawn, top-left+drawn+1, small()))
				drawn++
			}
			for range 2 {
				b.says(at(1, 1), hello(), api.Msg{})
				b.says(at(0, 2), hello(), api.Msg{}) // what is known of the slot stays
			}
			b.tell()
			if left > 0 {
				s, n := b.next(0)
				b.says(at(0, 1), hello(), welcome(s))
				b.says(at(0, 1), poll(s, n), bare(api.MsgNone, s, n))
				b.says(at(0, 1), poll(s, n), bare(api.MsgNone, s, n))
				b.says(at(0, 1), poll(s, n+1), bare(api.MsgNone, s, n+1))
				b.says(at(0, 1), beat(s, n+2, top-4), bare(api.MsgAlive, s, n+2))
			}
			b.says(at(0, 1), chunk(top-4, 0, "a"), ack(top-4, 1))
			if _, e := b.submit(small()); e != api.OK {
				t.Fatal(e)
			}
			b.tells(logged(top-4, "a"), submitted(4, small()))
			b.ticks(5)
			b.revive()
			b.says(at(0, 1), hello(), api.Msg{})
		}
	}
}
