package coord_test

import (
	"math"
	"slices"
	"strings"
	"testing"

	"gaffer/api"
	"gaffer/coord"
	"gaffer/disk"
	"gaffer/wal"
)

// far are numbers outside all bounds.
var far = []int{-1, -2, -8, -top, top + 1, 2 * top, 1<<32 + 1<<41, math.MinInt, math.MinInt + 1, math.MinInt + 2, math.MaxInt - 1, math.MaxInt}

func TestNumbers(t *testing.T) {
	if api.ErrDead != 2 || api.ErrCoordConfig != 180 || api.ErrCoordProgram != 181 || api.ErrCoordFull != 182 || api.ErrCoordForm != 183 ||
		api.MaxNumber != top || api.MaxJobs != 8 || api.MaxRunners != 8 || api.MinHalf != 160 || api.MaxHalf != 512 ||
		api.NodeCoord != 0 || api.NodeRunner != 2 || api.MsgHello != 1 || api.MsgChunk != 5 || api.MsgRefused != 16 {
		t.Error("numbers of api")
	}
}

// The chapter's table of examples, call by call.
func TestP18Examples(t *testing.T) {
	c := config()
	five, _ := disk.New(5)
	if x, e := coord.New(c, five); x != nil || e != api.ErrCoordConfig {
		t.Errorf("New on five sectors: %v, %v", x, e)
	}
	if x, e := coord.Open(c, blank(t, 160)); x != nil || e != api.ErrCoordForm {
		t.Errorf("Open of noughts: %v, %v", x, e)
	}
	a, o, p := at(0, 1), at(1, 1), small()
	b := made(t, c)
	b.says(a, hello(), welcome(1))
	b.tells(reserve(2))
	b.says(a, hello(), welcome(1))
	b.says(o, hello(), welcome(2))
	b.says(a, poll(1, 1), bare(api.MsgNone, 1, 1))
	if n, e := b.submit("x"); n != 0 || e != api.ErrCoordProgram {
		t.Errorf("Submit(x): %d, %v", n, e)
	}
	if n, e := b.submit(p); n != 1 || e != api.OK {
		t.Errorf("Submit(p): %d, %v", n, e)
	}
	b.says(a, poll(1, 1), bare(api.MsgNone, 1, 1))
	b.says(a, poll(1, 2), offer(1, 2, 1, 3, p))
	b.tells(submitted(1, p), reserve(4), granted(1, 3, 0, 1))
	b.ticks(3)
	b.says(a, beat(1, 3, 3), bare(api.MsgAlive, 1, 3))
	if l := b.x.Leases(); !slices.Equal(l, []api.Lease{{Job: 1, Badge: 3, Holder: a, Left: 4}}) {
		t.Errorf("Leases: %+v", l)
	}
	b.says(a, chunk(3, 1, "y"), ack(3, 0))
	b.says(a, chunk(3, 0, "x"), ack(3, 2))
	b.says(a, done(1, 4, 3, 1, api.Result{}), bare(api.MsgGone, 1, 4))
	b.says(o, beat(2, 1, 3), bare(api.MsgGone, 2, 1))
	b.says(a, beat(9, 9, 3), bare(api.MsgStale, 9, 9))
	b.says(a, done(1, 5, 3, 2, api.Result{}), bare(api.MsgRecorded, 1, 5))
	want := api.Place{Row: api.Row{Job: 1, Status: api.Recorded, Attempts: 1, Badge: 3}, Program: p, Log: []string{"x", "y"}}
	if v := b.x.View(); len(v.Jobs) != 1 || !samePlace(v.Jobs[0], want) {
		t.Errorf("View: %+v", v)
	}
	b.tells(logged(3, "x", "y"), settled(3, api.Result{}))
}

// bounds are a config's numbers, with the least and the most that each may be.
func bounds(c *api.Config) []struct {
	n           *int
	least, most int
} {
	return []struct {
		n           *int
		least, most int
	}{
		{&c.Runners, 1, 8}, {&c.Lease, 1, 256}, {&c.Resend, 1, 16}, {&c.Attempts, 1, 8}, {&c.Window, 1, 8},
		{&c.Quantum, 1, 64}, {&c.Block, 1, 16}, {&c.Every, 1, 16}, {&c.Half, 160, 512},
	}
}

// Each number of a config at each value about its bounds, the others at both ends and in between.
func TestP18_1Check(t *testing.T) {
	for base := range 3 {
		c := config()
		for _, x := range bounds(&c) {
			*x.n = []int{x.least, x.most, (x.least + x.most) / 2}[base]
		}
		if e := coord.Check(c); e != api.OK {
			t.Fatalf("Check(%+v): %v", c, e)
		}
		for i := range bounds(&c) {
			o := c
			x := bounds(&o)[i]
			tries := append([]int{0, x.most + 1<<32, x.most * 2, 1000}, far...)
			for n := x.least - 3; n <= x.most+3; n++ {
				tries = append(tries, n)
			}
			for _, n := range tries {
				*x.n = n
				want := api.OK
				if n < x.least || n > x.most {
					want = api.ErrCoordConfig
				}
				if e := coord.Check(o); e != want {
					t.Fatalf("Check(%+v): %v", o, e)
				}
			}
		}
	}
	if e := coord.Check(api.Config{}); e != api.ErrCoordConfig {
		t.Errorf("Check of the zero one: %v", e)
	}
}

// starts are New and Open.
func starts() []func(api.Config, *disk.Disk) (*coord.Coord, api.Errno) {
	return []func(api.Config, *disk.Disk) (*coord.Coord, api.Errno){coord.New, coord.Open}
}

// P18.2, P18.3: a config that may not be, or a disk that is not its own, wherever the disk stands: ahead of its being dead, and nothing is written.
func TestP18_2P18_3Config(t *testing.T) {
	for i, start := range starts() {
		for _, formatted := range []bool{false, true} {
			for _, dead := range []bool{false, true} {
				refuses := func(c api.Config, sectors int) {
					t.Helper()
					d, e := disk.New(sectors)
					if e != api.OK {
						t.Fatal(e)
					}
					if formatted {
						wal.Format(d)
						d.Forget()
					}
					if dead {
						d.Arm(1, 0)
						d.Write(0, strings.Repeat("\x00", 128))
					}
					ahead := d.Sectors()
					if x, e := start(c, d); x != nil || e != api.ErrCoordConfig || len(d.Raw()) > 0 || !slices.Equal(ahead, d.Sectors()) || d.Dead() != dead {
						t.Fatalf("start %d of %+v on %d sectors: %v, %v", i, c, sectors, x, e)
					}
				}
				for _, sectors := range []int{1, 2, 3, 4, 5, 6, 160, 318, 320, 321, 323, 324, 512, 642, 644, 1024, 1026} {
					refuses(config(), sectors)
				}
				for j := range bounds(&api.Config{}) {
					c := config()
					x := bounds(&c)[j]
					for _, n := range []int{x.least - 1, x.most + 1, 0, -1, math.MaxInt, math.MinInt, 160 + 1<<62} {
						*x.n = n
						refuses(c, 322)
					}
				}
				c := config()
				c.Half = 159
				refuses(c, 320)
				c.Half = 512
				refuses(c, 1024)
				c.Half = 500
				refuses(c, 322)
			}
		}
	}
}

// A disk of every half that may be.
func TestP18_2Halves(t *testing.T) {
	for _, half := range []int{160, 161, 255, 256, 511, 512} {
		c := config()
		c.Half = half
		b := made(t, c)
		b.submit(small())
		b.sameDisk()
		if e := b.open(c); e != api.OK || len(b.x.View().Jobs) != 1 {
			t.Errorf("half %d: %v", half, e)
		}
	}
}

func TestP18_2New(t *testing.T) {
	b := made(t, config())
	if v := b.x.View(); v.Reserved != 0 || len(v.Jobs) != 0 || len(b.x.Leases()) != 0 || len(b.x.Sessions()) != 0 || len(b.x.Told()) != 0 || b.x.Dead() {
		t.Errorf("New: %+v", v)
	}
	b.sameDisk()
	if _, s, l, e := wal.Open(b.d); e != api.OK || s != "" || len(l) != 0 {
		t.Errorf("on the disk: %q, %q, %v", s, l, e)
	}
	// A log is there: of New, of a coordinator that did something, of anybody.
	b.submit(small())
	for _, d := range []*disk.Disk{b.d, laid(t, 160, ""), laid(t, 160, "no state", "no record")} {
		ahead := d.Sectors()
		if x, e := coord.New(config(), d); x != nil || e != api.ErrCoordForm || !slices.Equal(ahead, d.Sectors()) {
			t.Errorf("New over a log: %v, %v", x, e)
		}
	}
	b.submit(small()) // it goes on
	// A dead disk is told ahead of that.
	b.d.Arm(1, 128)
	b.x.Submit(small())
	if x, e := coord.New(config(), b.d); x != nil || e != api.ErrDead {
		t.Errorf("New on a dead disk: %v, %v", x, e)
	}
	// Whatever stands there, if it is no log.
	d := blank(t, 160)
	for i := range d.Size() {
		d.Write(i, strings.Repeat("\xa5", 128))
	}
	if x, e := coord.New(config(), d); e != api.OK || len(x.View().Jobs) != 0 {
		t.Errorf("New over what is no log: %v", e)
	}
}

// The power goes in New, behind each number of bytes: the head stands whole, or there is no log, and New may be asked again.
func TestP18_2Cut(t *testing.T) {
	for bytes := range 129 {
		d := blank(t, 160)
		d.Arm(1, bytes)
		if x, e := coord.New(config(), d); x != nil || e != api.ErrDead || !d.Dead() {
			t.Fatalf("New, cut: %v, %v", x, e)
		}
		d.Revive()
		want := []api.Errno{api.ErrCoordForm, api.OK}
		if bytes == 128 {
			want = []api.Errno{api.OK, api.ErrCoordForm}
		}
		x, e := coord.Open(config(), d)
		y, f := coord.New(config(), d)
		if e != want[0] || f != want[1] || (x != nil) != (e == api.OK) || (y != nil) != (f == api.OK) {
			t.Fatalf("behind %d bytes: Open %v, New %v", bytes, e, f)
		}
	}
}

// What Open refuses: it writes nothing then.
func TestP18_3Refused(t *testing.T) {
	c := config()
	held := api.View{Reserved: 4, Jobs: []api.Place{{Row: api.Row{Job: 1, Status: 2, Attempts: 2, Badge: 3, Holder: at(0, 1)}, Program: "p"}}}
	good := recordBytes([]api.Change{submitted(1, "p")})
	for _, x := range []struct {
		name string
		d    *disk.Disk
	}{
		{"noughts", blank(t, 160)},
		{"no state", laid(t, 160, "x")},
		{"a nought", laid(t, 160, "\x00")},
		{"a state and more", laid(t, 160, "\x00\x00\x00")},
		{"a state of other attempts", laid(t, 160, strings.Replace(stateBytes(held), "\x02\x02", "\x02\x03", 1))},
		{"a badge that is not reserved", laid(t, 160, strings.Replace(stateBytes(held), "\x04", "\x02", 1))},
		{"no record", laid(t, 160, "", "x")},
		{"no record behind one", laid(t, 160, "", good, "\x00")},
		{"a record and more", laid(t, 160, "", good+"\x00")},
		{"a record ahead of one that is none", laid(t, 160, "", "\x01", good)},
		{"no change", laid(t, 160, "", "\x00")},
		{"a job twice", laid(t, 160, "", good, good)},
		{"the second job first", laid(t, 160, "", recordBytes([]api.Change{submitted(2, "p")}))},
		{"a badge that nothing reserved", laid(t, 160, "", good, recordBytes([]api.Change{granted(1, 1, 0, 1)}))},
		{"a change of the second that may not come", laid(t, 160, "", good, recordBytes([]api.Change{reserve(4), granted(1, 5, 0, 1)}))},
		{"a job that is not held", laid(t, 160, "", good, recordBytes([]api.Change{logged(1, "a")}))},
		{"what the snapshot has already", laid(t, 160, stateBytes(held), good)},
		{"nothing reserved anew", laid(t, 160, stateBytes(held), recordBytes([]api.Change{reserve(4)}))},
	} {
		ahead := x.d.Sectors()
		if o, e := coord.Open(c, x.d); o != nil || e != api.ErrCoordForm {
			t.Errorf("%s: %v, %v", x.name, o, e)
		}
		if len(x.d.Raw()) != 0 || !slices.Equal(ahead, x.d.Sectors()) {
			t.Errorf("%s: it wrote", x.name)
		}
	}
	// The like of them that may be.
	for _, d := range []*disk.Disk{laid(t, 160, ""), laid(t, 160, "\x00\x00"), laid(t, 160, stateBytes(held)), laid(t, 160, "", good), laid(t, 160, "", good, recordBytes([]api.Change{reserve(4), granted(1, 4, 7, 1)})), laid(t, 160, stateBytes(held), recordBytes([]api.Change{reserve(5), expired(3)}))} {
		if x, e := coord.Open(c, d); x == nil || e != api.OK {
			t.Errorf("%v, %v", x, e)
		}
	}
}

// The state of a snapshot is taken with the config's Attempts.
func TestP18_3Attempts(t *testing.T) {
	for most := 1; most <= 8; most++ {
		for begun := 1; begun <= 8; begun++ {
			for status := 1; status <= 4; status++ {
				c := config()
				c.Attempts = most
				r := api.Row{Job: 1, Status: status, Attempts: begun, Badge: 3}
				if status == 2 {
					r.Holder = at(0, 1)
				}
				v := api.View{Reserved: 4, Jobs: []api.Place{{Row: r, Program: "p"}}}
				want := begun <= most
				switch status {
				case 1:
					want = begun < most
				case 4:
					want = begun == most
				}
				x, e := coord.Open(c, laid(t, 160, stateBytes(v)))
				if (e == api.OK) != want || !want && (x != nil || e != api.ErrCoordForm) {
					t.Fatalf("most %d: %+v: %v", most, r, e)
				}
			}
		}
	}
	// So are the records.
	for most := 1; most <= 8; most++ {
		l := []string{recordBytes([]api.Change{submitted(1, "p"), reserve(16)})}
		for badge := 1; badge <= 3; badge++ {
			l = append(l, recordBytes([]api.Change{granted(1, badge, 0, 1)}), recordBytes([]api.Change{expired(badge)}))
		}
		c := config()
		c.Attempts = most
		if _, e := coord.Open(c, laid(t, 160, "", l...)); (e == api.OK) != (most >= 3) {
			t.Errorf("most %d: %v", most, e)
		}
	}
}

// sample is a view with jobs of all kinds; those that are held by whom the config does not know, too.
func sample() api.View {
	return api.View{Reserved: 20, Jobs: []api.Place{
		{Row: api.Row{Job: 1, Status: 1}, Program: small()},
		{Row: api.Row{Job: 2, Status: 2, Attempts: 2, Badge: 9, Holder: at(0, 1)}, Program: "no program", Log: []string{"a", "", "c"}},
		{Row: api.Row{Job: 3, Status: 2, Attempts: 1, Badge: 5, Holder: at(1, 7)}, Program: "p"},
		{Row: api.Row{Job: 4, Status: 3, Attempts: 1, Badge: 6, Result: api.Result{Bits: 5}}, Program: "p", Log: []string{"x"}},
		{Row: api.Row{Job: 5, Status: 4, Attempts: 2, Badge: 7}, Program: "p"},
		{Row: api.Row{Job: 6, Status: 2, Attempts: 1, Badge: 18, Holder: at(7, top)}, Program: "p"},
		{Row: api.Row{Job: 7, Status: 1, Attempts: 1, Badge: 2}, Program: "p", Log: []string{"old"}},
	}}
}

func TestP18_3Found(t *testing.T) {
	c := config()
	b := standing(t, c, sample())
	if len(b.d.Raw()) != 0 {
		t.Error("it wrote, though there is no record")
	}
	want := []api.Lease{{Job: 3, Badge: 5, Holder: at(1, 7), Left: 4}, {Job: 2, Badge: 9, Holder: at(0, 1), Left: 4}, {Job: 6, Badge: 18, Holder: at(7, top), Left: 4}}
	if l := b.x.Leases(); !slices.Equal(l, want) {
		t.Errorf("Leases: %+v", l)
	}
	if l := b.x.Sessions(); len(l) != 0 {
		t.Errorf("Sessions: %+v", l)
	}
	b.tells()
	// The stitchers have as many as the logs.
	b.says(at(0, 1), chunk(9, 2, "z"), ack(9, 3))
	b.says(at(0, 1), chunk(9, 4, "e"), ack(9, 3))
	b.says(at(0, 1), chunk(9, 5, "f"), ack(9, 3))
	b.says(at(0, 1), chunk(9, 3, "d"), ack(9, 5))
	b.says(at(1, 7), chunk(5, 0, "0"), ack(5, 1))
	b.says(at(7, top), chunk(18, 0, "0"), api.Msg{}) // no runner of this config
	b.tells(logged(9, "d", "e"), logged(5, "0"))
	// Badges begin behind those that are reserved.
	b.says(at(0, 1), hello(), welcome(21))
	b.says(at(0, 1), done(21, 1, 6, 0, api.Result{}), bare(api.MsgRecorded, 21, 1))
	b.says(at(0, 1), poll(21, 2), offer(21, 2, 1, 22, small()))
	b.says(at(0, 1), poll(21, 3), offer(21, 3, 7, 23, "p"))
	b.tells(reserve(22), granted(1, 22, 0, 1), reserve(24), granted(7, 23, 0, 1))
	b.ticks(4)
	if l := b.x.Leases(); len(l) != 0 {
		t.Errorf("Leases: %+v", l)
	}
	b.tells(expired(5), expired(9), expired(18), expired(22), expired(23))
}

// Records are played behind the snapshot, and another snapshot takes their place; behind that nothing is left to write.
func TestP18_3Records(t *testing.T) {
	c := config()
	rows := [][]api.Change{
		{reserve(30)}, {submitted(8, "q")}, {granted(1, 21, 1, 2)}, {logged(21, "a", "b")}, {expired(5), expired(18)},
		{granted(3, 22, 0, 3)}, {settled(9, api.Result{Code: 7})}, {logged(22, "")}, {reserve(32), granted(6, 31, 0, 1)},
	}
	for n := range len(rows) + 1 {
		for _, empty := range []bool{false, true} {
			v, l := sample(), rows[:n]
			snapshot := stateBytes(v)
			if empty { // a log that begins with nothing
				v, snapshot, l = api.View{}, "", [][]api.Change{{submitted(1, "p")}, {submitted(2, "p"), reserve(2)}, {granted(1, 2, 0, 1)}}[:min(n, 3)]
			}
			var records []string
			for _, r := range l {
				records = append(records, recordBytes(r))
				v = behind(c.Attempts, v, r)
			}
			d := laid(t, 160, snapshot, records...)
			x, e := coord.Open(c, d)
			if e != api.OK || !sameView(x.View(), v) || len(x.Told()) != 0 || len(x.Sessions()) != 0 {
				t.Fatalf("%d records: %v", n, e)
			}
			if (len(d.Raw()) > 0) != (len(l) > 0) {
				t.Fatalf("%d records: written %d", n, len(d.Raw()))
			}
			if _, s, left, e := wal.Open(d); e != api.OK || len(left) != 0 || len(l) > 0 && s != stateBytes(v) || len(l) == 0 && s != snapshot {
				t.Fatalf("%d records: on the disk %q and %q, %v", n, s, left, e)
			}
			for _, r := range x.Leases() {
				if r.Left != c.Lease {
					t.Fatalf("%+v", r)
				}
			}
			d.Forget()
			if y, e := coord.Open(c, d); e != api.OK || !sameView(y.View(), v) || len(d.Raw()) > 0 {
				t.Fatalf("once more: %v, written %d", e, len(d.Raw()))
			}
		}
	}
}

// Open is cut in each of its writes: what stands is the same, and the next Open finds it.
func TestP18_3Cut(t *testing.T) {
	c := config()
	d := laid(t, 160, stateBytes(sample()), recordBytes([]api.Change{reserve(30)}), recordBytes([]api.Change{granted(1, 30, 0, 5)}))
	want := behind(c.Attempts, sample(), []api.Change{reserve(30), granted(1, 30, 0, 5)})
	whole := d.Clone()
	coord.Open(c, whole)
	writes := len(whole.Raw())
	if writes < 3 {
		t.Fatalf("just %d writes", writes)
	}
	for n := 1; n <= writes; n++ {
		for _, bytes := range cutsOf(n == writes) {
			o := d.Clone()
			o.Arm(n, bytes)
			if x, e := coord.Open(c, o); x != nil || e != api.ErrDead || !o.Dead() {
				t.Fatalf("cut %d, %d: %v", n, bytes, e)
			}
			if x, e := coord.Open(c, o); x != nil || e != api.ErrDead {
				t.Fatalf("of a dead disk: %v", e)
			}
			o.Revive()
			x, e := coord.Open(c, o)
			if e != api.OK || !sameView(x.View(), want) {
				t.Fatalf("cut %d, %d: %v", n, bytes, e)
			}
		}
	}
}

// cutsOf are the bytes of a write behind which the power may go: of a head all.
func cutsOf(head bool) []int {
	if !head {
		return []int{0, 1, 2, 63, 127, 128}
	}
	l := make([]int, 129)
	for i := range l {
		l[i] = i
	}
	return l
}

// Behind the power's going every call but those that only tell is answered so, also when the disk lives again; what is told is from ahead of it.
func TestP18_4P18_8Dead(t *testing.T) {
	for _, bytes := range []int{0, 64, 127, 128} {
		for n := 1; n <= 2; n++ {
			b := working(t, config(), 2, 1)
			b.says(at(0, 1), chunk(3, 0, "a"), ack(3, 1))
			ahead := b.clone()
			b.arm(n, bytes)
			if m, e := b.submit(small()); m != 0 || e != api.ErrDead || !b.x.Dead() {
				t.Fatalf("cut %d, %d: Submit: %d, %v", n, bytes, m, e)
			}
			b.sameDisk()
			for range 2 {
				raw := len(b.d.Raw())
				for range 2 {
					b.submit("x")
					b.submit(small())
					b.tick()
					b.bytes(at(0, 1), "")
					b.bytes(api.Addr{}, "\x01")
					for k := range 2 {
						s, i := b.next(k)
						for _, m := range []api.Msg{hello(), poll(s, i), poll(s, i-1), poll(9, 9), beat(s, i, 3), done(s, i, 3, 1, api.Result{}), chunk(3, 1, "b")} {
							b.hear(at(k, 1), m)
						}
					}
				}
				if !b.x.Dead() || len(b.d.Raw()) != raw {
					t.Fatal("a dead one")
				}
				if !sameView(b.x.View(), ahead.x.View()) || !slices.Equal(b.x.Leases(), ahead.x.Leases()) || !slices.Equal(b.x.Sessions(), ahead.x.Sessions()) {
					t.Fatal("what it tells is not what it was")
				}
				c := b.clone()
				if !c.x.Dead() || c.x.Tick() != api.ErrDead {
					t.Fatal("a dead one's clone lives")
				}
				b.d.Revive()
				b.w.d.Revive()
			}
			b.tells(logged(3, "a"))
			b.tells()
			b.revive()
			if b.x.Dead() || b.x.Tick() != api.OK {
				t.Fatal("the new one is dead")
			}
		}
	}
}

// The power goes in each of the calls.
func TestP18_4EveryCall(t *testing.T) {
	start := working(t, config(), 1, 1)
	start.submit(small())
	start.ticks(3)
	start.tell()
	for i, call := range []func(b *both) api.Errno{
		func(b *both) api.Errno { _, e := b.submit(small()); return e },
		func(b *both) api.Errno { return b.tick() },
		func(b *both) api.Errno { _, e := b.bytes(at(0, 2), nums(1)); return e },
		func(b *both) api.Errno { _, e := b.bytes(at(0, 1), nums(2, 1, 2)); return e },
		func(b *both) api.Errno { _, e := b.bytes(at(0, 1), nums(4, 1, 2, 3, 0, 1)+bits(0)); return e },
		func(b *both) api.Errno { _, e := b.bytes(at(0, 1), nums(5, 3, 0)+text("a")); return e },
	} {
		if e := call(start.clone()); e != api.OK {
			t.Fatalf("call %d: %v", i, e)
		}
		for n := 1; n <= 2; n++ {
			b := start.clone()
			b.arm(n, 20)
			if e := call(b); e != api.ErrDead {
				t.Fatalf("call %d, cut in the write %d: %v", i, n, e)
			}
			if !b.x.Dead() || !sameView(b.x.View(), start.x.View()) || !slices.Equal(b.x.Leases(), start.x.Leases()) || !slices.Equal(b.x.Sessions(), start.x.Sessions()) || len(b.x.Told()) != 0 {
				t.Fatalf("call %d, cut in the write %d: %+v", i, n, b.x.View())
			}
			b.sameDisk()
		}
	}
}

// A call that finds the disk dead is answered so, and so are those behind it; Dead looks at the disk by itself.
func TestP18_8DiskIsDead(t *testing.T) {
	b := working(t, config(), 1)
	sector, _ := b.d.Read(0)
	b.d.Arm(1, 0)
	b.d.Write(0, sector)
	if !b.x.Dead() {
		t.Error("its disk is dead")
	}
	b.d.Revive()
	if b.x.Dead() || b.x.Tick() != api.OK {
		t.Error("no call was answered so")
	}
	b.d.Arm(1, 0)
	b.d.Write(0, sector)
	if b.x.Tick() != api.ErrDead {
		t.Error("its disk is dead")
	}
	b.d.Revive()
	if !b.x.Dead() || b.x.Tick() != api.ErrDead {
		t.Error("a call was answered so")
	}
}

func TestP18_5Submit(t *testing.T) {
	b := made(t, config())
	bad := []string{"", "x", "\x00", small()[1:], small() + "\x00", long(1024), long(1025), long(1 << 16), "\x00\x01\x18", "\x01\x00", "\x01\x01\x19"}
	var want []api.Change
	for n := 1; n <= 8; n++ {
		for _, p := range bad {
			if m, e := b.submit(p); m != 0 || e != api.ErrCoordProgram {
				t.Fatalf("Submit(%.20q): %d, %v", p, m, e)
			}
		}
		p := program(n, 8*(n-1)+7)
		if n == 8 {
			p = program(1024, 63)
		}
		if m, e := b.submit(p); m != n || e != api.OK {
			t.Fatalf("the %d-th: %d, %v", n, m, e)
		}
		v := b.x.View()
		if len(v.Jobs) != n || !samePlace(v.Jobs[n-1], api.Place{Row: api.Row{Job: n, Status: api.Queued}, Program: p}) {
			t.Fatalf("View: %+v", v)
		}
		want = append(want, submitted(n, p))
	}
	for range 2 {
		if m, e := b.submit(small()); m != 0 || e != api.ErrCoordFull {
			t.Fatalf("the ninth: %d, %v", m, e)
		}
		for _, p := range bad { // that it is no program is told ahead of that
			if m, e := b.submit(p); m != 0 || e != api.ErrCoordProgram {
				t.Fatalf("Submit(%.20q): %d, %v", p, m, e)
			}
		}
	}
	b.tells(want...)
	b.revive()
	if m, e := b.submit(small()); m != 0 || e != api.ErrCoordFull {
		t.Fatalf("the ninth, behind Open: %d, %v", m, e)
	}
}

// Leases of all lengths run out by their ticks alone, each at its own time.
func TestP18_6Tick(t *testing.T) {
	for _, lease := range []int{1, 2, 3, 4, 7, 255, 256} {
		c := config()
		c.Lease = lease
		b := working(t, c, 1)
		b.ticks(lease - 1)
		if l := b.x.Leases(); len(l) != 1 || l[0].Left != 1 {
			t.Fatalf("of %d: %+v", lease, l)
		}
		b.tells()
		b.tick()
		b.tells(expired(2))
		if r := b.x.View().Jobs[0].Row; r != (api.Row{Job: 1, Status: api.Queued, Attempts: 1, Badge: 2}) || len(b.x.Leases()) != 0 {
			t.Fatalf("of %d: %+v", lease, r)
		}
		b.ticks(3)
		b.tells()
		b.says(at(0, 1), beat(1, 2, 2), bare(api.MsgGone, 1, 2))
		b.says(at(0, 1), chunk(2, 0, "a"), api.Msg{})
		b.says(at(0, 1), done(1, 3, 2, 0, api.Result{}), bare(api.MsgGone, 1, 3))
		b.says(at(0, 1), poll(1, 4), offer(1, 4, 1, 3, small()))
		b.tell()
		b.ticks(lease)
		b.tells(expired(3))
		if r := b.x.View().Jobs[0].Row; r.Status != api.Lost {
			t.Fatalf("of %d: %+v", lease, r)
		}
		b.says(at(0, 1), poll(1, 5), bare(api.MsgNone, 1, 5))
	}
}

// Eight run out at once: one record, by rising badges, whatever the jobs' order is; others stay.
func TestP18_6Together(t *testing.T) {
	c := config()
	c.Attempts, c.Lease = 3, 3
	b := working(t, c, 4, 4)
	b.says(at(0, 1), beat(1, 5, 3), bare(api.MsgAlive, 1, 5))
	b.ticks(2)
	b.says(at(0, 1), beat(1, 6, 3), bare(api.MsgAlive, 1, 6)) // job 1, badge 3
	b.tick()
	b.tells(expired(4), expired(5), expired(6), expired(7), expired(8), expired(9), expired(10))
	for i := range 7 {
		if m := b.hear(at(1, 1), poll(2, 5+i)); m.Job != i+2 || m.Badge != 11+i {
			t.Fatalf("%+v", m)
		}
	}
	b.tell()
	b.tick()
	b.says(at(1, 1), beat(2, 12, 17), bare(api.MsgAlive, 2, 12))
	b.tick()
	b.tells(expired(3))
	b.says(at(0, 1), poll(1, 7), offer(1, 7, 1, 18, small()))
	b.tell()
	b.tick()
	b.tells(expired(11), expired(12), expired(13), expired(14), expired(15), expired(16))
	b.tick()
	b.tells(expired(17)) // the job 8 under the badge 17, behind it the job 1 under 18
	b.tick()
	b.tells(expired(18))
	// All in one record.
	o := working(t, c, 4, 4)
	o.ticks(2)
	_, _, ahead, _ := wal.Open(o.d)
	o.tick()
	_, _, records, _ := wal.Open(o.d)
	want := recordBytes([]api.Change{expired(3), expired(4), expired(5), expired(6), expired(7), expired(8), expired(9), expired(10)})
	if len(records) != len(ahead)%c.Every+1 || records[len(records)-1] != want {
		t.Errorf("records: %q behind %q", records, ahead)
	}
}

// A tick in which nothing runs out writes nothing.
func TestP18_6Nothing(t *testing.T) {
	b := made(t, config())
	b.ticks(3)
	o := working(t, config(), 1)
	o.d.Forget()
	o.ticks(2)
	for _, x := range []*both{b, o} {
		if len(x.d.Raw()) > 0 || len(x.x.Told()) > 0 {
			t.Error("it wrote")
		}
	}
}

// When a snapshot is laid down, and of what: with each Every, call by call, by the disk's own log.
func TestChangesAreMade(t *testing.T) {
	for every := 1; every <= 16; every++ {
		c := config()
		c.Every, c.Attempts = every, 8
		b := made(t, c)
		var snapshot string
		var want []string
		makes := func(call func(), l ...api.Change) {
			t.Helper()
			if len(want) == every {
				snapshot, want = stateBytes(b.x.View()), nil
			}
			want = append(want, recordBytes(l))
			call()
			_, s, records, e := wal.Open(b.d)
			if e != api.OK || s != snapshot || !slices.Equal(records, want) {
				t.Fatalf("every %d: %q and %q, not %q and %q", every, s, records, snapshot, want)
			}
		}
		makes(func() { b.submit(small()) }, submitted(1, small()))
		makes(func() { b.hear(at(0, 1), hello()) }, reserve(2))
		b.says(at(1, 1), hello(), welcome(2))
		for i := range 7 {
			badge := 3 + i
			grant := []api.Change{granted(1, badge, 0, 1)}
			if badge%2 == 1 {
				grant = []api.Change{reserve(badge + 1), granted(1, badge, 0, 1)}
			}
			makes(func() { b.hear(at(0, 1), poll(1, 1+i)) }, grant...)
			b.hear(at(0, 1), chunk(badge, 1, "y"))
			makes(func() { b.hear(at(0, 1), chunk(badge, 0, "x")) }, logged(badge, "x", "y"))
			b.ticks(3)
			makes(func() { b.tick() }, expired(badge))
		}
		makes(func() { b.hear(at(1, 1), poll(2, 1)) }, granted(1, 10, 1, 1))
		makes(func() { b.hear(at(1, 1), done(2, 2, 10, 0, api.Result{Code: 3})) }, settled(10, api.Result{Code: 3}))
	}
}
