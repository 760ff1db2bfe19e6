package coord_test

import (
	"encoding/binary"
	"math/rand"
	"slices"
	"testing"

	"gaffer/api"
	"gaffer/coord"
	"gaffer/disk"
	"gaffer/wal"
	"gaffer/wire"
)

// call is one of a coordinator's calls, with what it is given.
type call struct {
	what    int // 0: Submit, 1: Tick, 2: Hear
	program string
	from    api.Addr
	data    string
}

func (c call) do(x *coord.Coord) api.Errno {
	e := api.OK
	switch c.what {
	case 0:
		_, e = x.Submit(c.program)
	case 1:
		e = x.Tick()
	case 2:
		var l []api.Datagram
		if l, e = x.Hear(c.from, c.data); e != api.OK && len(l) > 0 {
			return -1
		}
	}
	return e
}

// story is calls that make all kinds of changes, at every place of a log with such a config.
func story(t *testing.T) []call {
	t.Helper()
	hear := func(slot, life int, m api.Msg) call { return call{what: 2, from: at(slot, life), data: encoded(t, m)} }
	tick := call{what: 1}
	return []call{
		{program: small()}, hear(0, 1, hello()), {program: program(9, 20)}, hear(1, 1, hello()),
		hear(0, 1, poll(1, 1)), hear(1, 1, poll(2, 1)), {program: "none"}, hear(0, 1, chunk(3, 1, "b")), hear(0, 1, chunk(3, 0, "a")),
		tick, tick, hear(0, 1, beat(1, 2, 3)), hear(1, 1, chunk(4, 0, long(32))), tick, tick, // the badge 4 runs out
		{program: program(1024, 63)}, hear(1, 2, hello()), hear(1, 2, poll(5, 1)), hear(0, 1, done(1, 3, 3, 1, api.Result{})),
		hear(0, 1, done(1, 4, 3, 2, api.Result{Bits: 7})), hear(1, 2, chunk(6, 0, "")), hear(1, 2, poll(5, 2)), hear(0, 1, poll(1, 5)),
		tick, tick, tick, tick, hear(0, 1, poll(1, 6)), hear(0, 2, hello()), hear(0, 2, poll(9, 1)), tick, tick, tick, tick,
	}
}

// behaves holds one that died in a call against what it was ahead of it.
func behaves(t *testing.T, x, ahead *coord.Coord) {
	t.Helper()
	if !x.Dead() || !sameView(x.View(), ahead.View()) || !slices.Equal(x.Leases(), ahead.Leases()) || !slices.Equal(x.Sessions(), ahead.Sessions()) {
		t.Fatalf("of a dead one: %+v, not %+v", x.View(), ahead.View())
	}
}

// Every call of a story is cut in each of its writes: Open answers OK behind that, and shows the state ahead of the call, or, just if the last write stands whole, behind it. Open itself is cut, too.
func TestP18_10EveryCut(t *testing.T) {
	for _, every := range []int{1, 2, 3, 16} {
		c := config()
		c.Every = every
		d := blank(t, 160)
		x, _ := coord.New(c, d)
		cuts := 0
		for i, call := range story(t) {
			d.Forget()
			whole := d.Clone()
			y := x.Clone(whole)
			e := call.do(y)
			writes := whole.Raw()
			for n := 1; n <= len(writes); n++ {
				head := writes[n-1].Sector < 2
				for _, bytes := range cutsOf(head) {
					o := d.Clone()
					z := x.Clone(o)
					o.Arm(n, bytes)
					if e := call.do(z); e != api.ErrDead {
						t.Fatalf("call %d, cut %d, %d: %v", i, n, bytes, e)
					}
					behaves(t, z, x)
					o.Revive()
					want := x.View()
					if n == len(writes) && bytes == 128 {
						want = y.View()
					}
					if !head || bytes%16 == 0 {
						cutOpens(t, c, o, want)
					}
					u, e := coord.Open(c, o)
					if e != api.OK || !sameView(u.View(), want) {
						t.Fatalf("call %d, cut %d, %d: %v", i, n, bytes, e)
					}
					cuts++
				}
			}
			// It is not cut behind all its writes.
			d.Arm(len(writes)+1, 0)
			if f := call.do(x); f != e || x.Dead() || !sameView(x.View(), y.View()) {
				t.Fatalf("call %d: %v, not %v", i, f, e)
			}
			d.Arm(0, 0)
		}
		if cuts < 2500 {
			t.Errorf("just %d cuts", cuts)
		}
	}
}

// cutOpens has Open cut in each of its writes, on copies, each time twice: what is shown then is the same.
func cutOpens(t *testing.T, c api.Config, d *disk.Disk, want api.View) {
	t.Helper()
	whole := d.Clone()
	whole.Forget()
	coord.Open(c, whole)
	writes := len(whole.Raw())
	for n := 1; n <= writes; n++ {
		for _, bytes := range []int{0, 1, 127, 128} {
			o := d.Clone()
			for range 2 {
				o.Arm(n, bytes)
				if x, e := coord.Open(c, o); e == api.OK {
					break // the snapshot stands, though nobody was told
				} else if x != nil || e != api.ErrDead {
					t.Fatalf("Open, cut %d, %d: %v", n, bytes, e)
				}
				o.Revive()
			}
			o.Revive()
			x, e := coord.Open(c, o)
			if e != api.OK || !sameView(x.View(), want) {
				t.Fatalf("behind Open, cut %d, %d: %v", n, bytes, e)
			}
		}
	}
}

// risen is the numbers that were given as badges and as sessions, in their order: they rise, over all coordinators of a disk.
type risen struct {
	t    *testing.T
	last int
}

func (r *risen) next(n int) {
	r.t.Helper()
	if n <= r.last {
		r.t.Fatalf("%d behind %d", n, r.last)
	}
	r.last = n
}

// Every session that is welcome, every badge that is offered, and every one that a cut grant left on the disk, is above all that came ahead, over all coordinators of the disk, whatever their blocks are.
func TestP18_11Rise(t *testing.T) {
	found := 0
	for seed := range int64(40) {
		rnd := rand.New(rand.NewSource(seed))
		c := config()
		c.Attempts, c.Lease = 8, 2
		d := blank(t, 160)
		x, _ := coord.New(c, d)
		for range 8 {
			x.Submit(small())
		}
		r, seen := risen{t, 0}, map[int]int{}
		life, session, number := 0, 0, 0
		for range 200 {
			if rnd.Intn(6) == 0 {
				d.Arm(1+rnd.Intn(3), 128*rnd.Intn(2))
			}
			m := poll(max(1, session), number+1)
			if rnd.Intn(3) == 0 || session == 0 {
				life++
				m = hello()
			}
			said, e := x.Hear(at(0, life), encoded(t, m))
			if len(said) > 0 {
				switch m, _ := wire.Decode(said[0].Data); m.Kind {
				case api.MsgWelcome:
					r.next(m.Session)
					session, number = m.Session, 0
				case api.MsgOffer:
					r.next(m.Badge)
					seen[m.Badge], number = 1, number+1
				case api.MsgNone:
					number++
				}
			}
			if e == api.OK {
				e = x.Tick()
			}
			if e == api.OK && rnd.Intn(20) > 0 {
				continue
			}
			d.Revive()
			c.Block = 1 + rnd.Intn(16)
			if x, e = coord.Open(c, d); e != api.OK {
				t.Fatal(e)
			}
			session, number = 0, 0
			for _, p := range x.View().Jobs {
				if b := p.Row.Badge; b > 0 && seen[b] == 0 {
					r.next(b)
					seen[b] = 1
					found++
				}
			}
		}
	}
	if found < 20 {
		t.Errorf("just %d cut grants were found", found)
	}
}

// may asks of one as it stands for what always holds (P18.13).
func (b *both) may() {
	b.t.Helper()
	held := map[int]api.Addr{}
	for _, p := range b.x.View().Jobs {
		if p.Row.Status == api.Held {
			held[p.Row.Badge] = p.Row.Holder
		}
	}
	l := b.x.Leases()
	if len(l) != len(held) {
		b.t.Fatalf("%+v are held, and have leases %+v", held, l)
	}
	for _, x := range l {
		if held[x.Badge] != x.Holder || x.Left < 1 || x.Left > b.c.Lease {
			b.t.Fatalf("%+v are held, and have leases %+v", held, l)
		}
	}
	if b.d.Dead() {
		return
	}
	log, s, records, e := wal.Open(b.d)
	if e != api.OK || log.Records() > b.c.Every || len(records) > b.c.Every || len(s) > api.MaxState {
		b.t.Fatalf("on the disk: %d records, a snapshot of %d, %v", len(records), len(s), e)
	}
}

// Whatever is asked, wherever the power goes, and however often, in Open too: all answers are those of the words, byte by byte on the disk; and what follows holds.
func TestP18_10To13Walks(t *testing.T) {
	ends, cuts, opens, kinds := map[int]int{}, 0, 0, map[int]int{}
	for seed := range int64(150) {
		rnd := rand.New(rand.NewSource(seed))
		c := anyConfig(rnd)
		b := made(t, c)
		r := risen{t, 0}
		for range 150 {
			ahead := b.x.View()
			armed := rnd.Intn(5) == 0
			if armed {
				b.arm(1+rnd.Intn(4), []int{0, 1, 64, 127, 128, 128, rnd.Intn(129)}[rnd.Intn(7)])
			}
			session := slices.Max(append([]int{0}, sessionsOf(b.x)...))
			b.anyCall(rnd)
			if now := slices.Max(append([]int{0}, sessionsOf(b.x)...)); now > session {
				r.next(now)
			}
			for _, x := range b.tell() {
				kinds[x.Kind]++
				if x.Kind == api.ChGrant {
					r.next(x.Badge)
				}
			}
			b.may()
			if b.d.Dead() != b.x.Dead() || b.x.Dead() && !sameView(b.x.View(), ahead) {
				t.Fatalf("seed %d: %+v became %+v", seed, ahead, b.x.View())
			}
			if b.x.Dead() {
				cuts++
			}
			if b.x.Dead() || rnd.Intn(30) == 0 {
				b.restart(rnd)
				opens++
			} else if armed {
				b.arm(0, 0)
			}
		}
		b.sameDisk()
		for _, p := range b.x.View().Jobs {
			ends[p.Row.Status]++
		}
	}
	for status := 1; status <= 4; status++ {
		if ends[status] < 20 {
			t.Errorf("just %d walks' rows end in the status %d", ends[status], status)
		}
	}
	for kind := 1; kind <= 6; kind++ {
		if kinds[kind] < 100 {
			t.Errorf("just %d changes of the kind %d", kinds[kind], kind)
		}
	}
	if cuts < 300 || opens < 500 {
		t.Errorf("just %d cuts, %d starts", cuts, opens)
	}
}

func sessionsOf(x *coord.Coord) []int {
	var l []int
	for _, d := range x.Sessions() {
		l = append(l, d.Session)
	}
	return l
}

// restart starts it anew, as often as it takes: Open is cut now and then; the config's numbers may be others, but Runners and Attempts.
func (b *both) restart(rnd *rand.Rand) {
	b.t.Helper()
	c := anyConfig(rnd)
	c.Runners, c.Attempts = b.c.Runners, b.c.Attempts
	for {
		b.d.Revive()
		b.w.d.Revive()
		if rnd.Intn(3) == 0 {
			b.arm(1+rnd.Intn(4), rnd.Intn(129))
		}
		if b.open(c) == api.OK {
			break
		}
		b.sameDisk()
	}
	b.d.Revive()
	b.w.d.Revive()
}

// Datagrams of a few runners are doubled, held back and exchanged, across starts: whatever is asked under one number of a session has one reply, numbers act in their order, and each grant is that of one of them.
func TestP18_12Once(t *testing.T) {
	type key struct {
		from            api.Addr
		session, number int
	}
	offers := 0
	for seed := range int64(60) {
		rnd := rand.New(rand.NewSource(seed))
		c := anyConfig(rnd)
		c.Attempts = 8
		b := made(t, c)
		for range 8 {
			b.submit(small())
		}
		replies, last := map[key]string{}, map[int]int{}
		var held []struct {
			from api.Addr
			data string
		}
		granted, offered := 0, map[int]key{}
		for range 400 {
			slot := rnd.Intn(c.Runners)
			from := at(slot, max(1, b.w.desks[slot].Life)+rnd.Intn(20)/19)
			held = append(held, struct {
				from api.Addr
				data string
			}{from, encoded(t, anyMessage(rnd, b, slot))})
			i := max(0, len(held)-1-rnd.Intn(12)*rnd.Intn(3))
			said, _ := b.bytes(held[i].from, held[i].data)
			if rnd.Intn(15) == 0 {
				b.tick()
			}
			for _, x := range b.tell() {
				if x.Kind == api.ChGrant {
					granted++
				}
			}
			if rnd.Intn(100) == 0 {
				b.revive()
			}
			m, e := wire.Decode(said)
			if e != api.OK || m.Number == 0 || m.Kind == api.MsgStale {
				continue
			}
			k := key{held[i].from, m.Session, m.Number}
			if was, there := replies[k]; there && was != said {
				t.Fatalf("seed %d: to %+v: %q, and %q", seed, k, was, said)
			} else if !there {
				if m.Number != last[m.Session]+1 {
					t.Fatalf("seed %d: in the session %d %d acts behind %d", seed, m.Session, m.Number, last[m.Session])
				}
				replies[k], last[m.Session] = said, m.Number
			}
			if m.Kind == api.MsgOffer {
				if o, there := offered[m.Badge]; there && o != k {
					t.Fatalf("seed %d: the badge %d is offered to %+v and to %+v", seed, m.Badge, o, k)
				}
				offered[m.Badge] = k
			}
		}
		if granted != len(offered) {
			t.Fatalf("seed %d: %d grants, %d offers", seed, granted, len(offered))
		}
		offers += granted
	}
	if offers < 300 {
		t.Errorf("just %d offers", offers)
	}
}

// The greatest state, and the longest records that can come of it: they fit, with the smallest half, and the most records.
func TestP18_13Fits(t *testing.T) {
	c := config()
	c.Every, c.Window, c.Attempts, c.Block, c.Runners = 16, 8, 2, 1, 8
	v := api.View{Reserved: top - 40}
	for i := range 8 {
		p := api.Place{Row: api.Row{Job: i + 1, Status: 2, Attempts: 1, Badge: top - 60 + i, Holder: at(7, top)}, Program: program(1024, 63) + long(1024)}
		p.Program = p.Program[:1024]
		for range 32 {
			p.Log = append(p.Log, long(32))
		}
		v.Jobs = append(v.Jobs, p)
	}
	if n := len(stateBytes(v)); n < 16800 || n > 17000 {
		t.Fatalf("a state of %d", n)
	}
	b := standing(t, c, v)
	b.ticks(4)
	b.says(at(7, top), hello(), welcome(top-39))
	most := 0
	for i := range 8 {
		s, n := b.next(7)
		m := b.hear(at(7, top), poll(s, n))
		if m.Kind != api.MsgOffer || m.Job != i+1 {
			t.Fatalf("%+v", m)
		}
		for have := 0; have < 32; have += 8 {
			for k := 7; k >= 0; k-- {
				b.hear(at(7, top), chunk(m.Badge, have+k, long(32)))
			}
			b.may()
			_, snapshot, records, _ := wal.Open(b.d)
			used := len(snapshot)
			for _, r := range records {
				used += len(text(r))
			}
			most = max(most, used)
		}
	}
	if most < 20000 || most > 160*128 {
		t.Errorf("%d bytes of a half were used", most)
	}
	b.revive()
	b.may()
}

// laidHeads is a disk whose log has such a head, of the half 0, and whose other head is not right.
func laidHeads(t *testing.T, number uint64, snapshot string, records ...string) *disk.Disk {
	t.Helper()
	d := blank(t, 160)
	row := snapshot
	for _, r := range records {
		row += text(r)
	}
	b := binary.BigEndian.AppendUint64(nil, number)
	b = append(b, 0)
	b = binary.BigEndian.AppendUint32(b, uint32(len(snapshot)))
	b = binary.BigEndian.AppendUint32(b, uint32(len(row)-len(snapshot)))
	b = append(b, make([]byte, 103)...)
	b = binary.BigEndian.AppendUint64(b, number)
	d.Write(int(number%2), string(b))
	for i := 0; i < len(row); i += 128 {
		s := make([]byte, 128)
		copy(s, row[i:])
		d.Write(2+i/128, string(s))
	}
	return d
}

// A log that has no head left takes no more: whoever would have to write is answered as if the power had gone, and shows what was ahead of that; who need not goes on.
func TestLastHead(t *testing.T) {
	c := config()
	for left := range 4 {
		d := laidHeads(t, uint64(top-left), stateBytes(sample()))
		x, e := coord.Open(c, d)
		if e != api.OK || !sameView(x.View(), sample()) {
			t.Fatalf("Open: %v", e)
		}
		for range left {
			if _, e := x.Hear(at(0, 1), encoded(t, chunk(9, len(x.View().Jobs[1].Log), "a"))); e != api.OK {
				t.Fatalf("%d left: %v", left, e)
			}
		}
		want := x.View()
		if e := x.Tick(); e != api.OK {
			t.Fatalf("Tick: %v", e)
		}
		ahead := d.Sectors()
		if n, e := x.Submit(small()); n != 0 || e != api.ErrDead || !x.Dead() || d.Dead() {
			t.Fatalf("%d left: Submit: %d, %v", left, n, e)
		}
		if x.Tick() != api.ErrDead || !sameView(x.View(), want) || !slices.Equal(d.Sectors(), ahead) {
			t.Fatalf("%d left: %+v", left, x.View())
		}
		y, e := coord.Open(c, d)
		if left == 0 && (e != api.OK || !sameView(y.View(), want)) || left > 0 && (y != nil || e != api.ErrDead) {
			t.Fatalf("%d left: Open: %v", left, e)
		}
	}
}
