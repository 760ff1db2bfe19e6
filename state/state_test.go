package state_test

import (
	"math"
	"slices"
	"strings"
	"testing"

	"gaffer/api"
	"gaffer/state"
)

// far are numbers outside all bounds.
var far = []int{-1, -2, -8, -top, top + 1, 2 * top, 1<<32 + 1<<41, math.MinInt, math.MinInt + 1, math.MaxInt - 1, math.MaxInt}

func TestNumbers(t *testing.T) {
	if api.ErrArg != 1 || api.ErrStateChange != 170 || api.ErrStateForm != 171 ||
		api.MaxNumber != top || api.MaxJobs != 8 || api.MaxAttempts != 8 || api.MaxChunks != 32 || api.MaxText != 32 || api.MaxProgram != 1024 || api.MaxState != 17000 ||
		api.ChReserve != 1 || api.ChSubmit != 2 || api.ChGrant != 3 || api.ChLog != 4 || api.ChExpire != 5 || api.ChSettle != 6 ||
		api.Queued != 1 || api.Held != 2 || api.Recorded != 3 || api.Lost != 4 || api.NodeRunner != 2 {
		t.Error("numbers of api")
	}
}

// The chapter's table of examples, call by call.
func TestP17Examples(t *testing.T) {
	if s, e := state.New(0); s != nil || e != api.ErrArg {
		t.Errorf("New(0): %v, %v", s, e)
	}
	if s, e := state.Load(1, ""); s != nil || e != api.ErrStateForm {
		t.Errorf("Load(1, empty): %v, %v", s, e)
	}
	b := made(t, 1)
	if b.s.Bytes() != "\x00\x00" {
		t.Errorf("Bytes: %x", b.s.Bytes())
	}
	p := "\x01\x02"
	first := api.Change{Kind: api.ChSubmit, Job: 1, Program: p}
	b.refuses(0, api.Change{Kind: api.ChSubmit, Job: 2, Program: p})
	b.refuses(1, first, api.Change{Kind: api.ChGrant, Job: 1, Badge: 1, Life: 1})
	b.takes(first, reserve(4), api.Change{Kind: api.ChGrant, Job: 1, Badge: 2, Life: 1})
	b.refuses(0, lengthen(1, "a"))
	b.takes(lengthen(2, "a", "b"))
	want := api.Place{Row: api.Row{Job: 1, Status: api.Held, Attempts: 1, Badge: 2, Holder: api.Addr{Node: 2, Life: 1}}, Program: p, Log: []string{"a", "b"}}
	if got, ok := b.s.Find(2); !ok || !samePlace(got, want) {
		t.Errorf("Find(2): %+v, %v", got, ok)
	}
	b.refuses(0, reserve(4))
	b.takes(expire(2))
	if b.s.Head() != 0 || b.s.View().Jobs[0].Row.Status != api.Lost {
		t.Errorf("it is not lost: %+v", b.s.View())
	}
}

func TestP17_1New(t *testing.T) {
	for most := 1; most <= 8; most++ {
		b := made(t, most)
		if v := b.s.View(); v.Reserved != 0 || len(v.Jobs) != 0 || b.s.Head() != 0 || b.s.Bytes() != "\x00\x00" {
			t.Errorf("New(%d): %+v", most, v)
		}
	}
	for _, most := range append([]int{0, 9, 10, 16, 256, 257, 1<<32 + 1, top}, far...) {
		if s, e := state.New(most); s != nil || e != api.ErrArg {
			t.Errorf("New(%d): %v, %v", most, s, e)
		}
	}
}

// So many attempts has a job, and then it is lost.
func TestP17_1Most(t *testing.T) {
	for most := 1; most <= 8; most++ {
		b := made(t, most)
		b.takes(reserve(100), submit(1))
		for badge := 1; badge <= most; badge++ {
			b.takes(grant(1, badge))
			b.takes(expire(badge))
		}
		if r := b.s.View().Jobs[0].Row; r.Status != api.Lost || r.Attempts != most {
			t.Errorf("of %d: %+v", most, r)
		}
		b.refuses(0, grant(1, 50))
	}
}

func TestP17_2Empty(t *testing.T) {
	for _, b := range []both{made(t, 1), full(t)} {
		b.takes()
		b.takes([]api.Change{}...)
	}
}

// Kinds that are none, whatever else stands in the change.
func TestP17_2Kinds(t *testing.T) {
	for _, b := range []both{made(t, 3), full(t)} {
		for _, kind := range append([]int{0, 7, 8, 255, 256, 257, 1<<32 + 1, top}, far...) {
			for _, c := range []api.Change{{}, reserve(50), submit(1), grant(1, 15), lengthen(5, "a"), expire(5), settle(5, api.Result{})} {
				c.Kind = kind
				b.refuses(0, c)
			}
		}
	}
}

// What record.Check refuses does not come, though the state would have room for it: each good change with one field that its kind does not have.
func TestP17_2SpareFields(t *testing.T) {
	spares := []func(c *api.Change){
		func(c *api.Change) { c.N = 30 },
		func(c *api.Change) { c.Job = 1 },
		func(c *api.Change) { c.Badge = 5 },
		func(c *api.Change) { c.Slot = 1 },
		func(c *api.Change) { c.Life = 1 },
		func(c *api.Change) { c.Result.Code = 1 },
		func(c *api.Change) { c.Result.Bits = 1 },
		func(c *api.Change) { c.Program = "p" },
		func(c *api.Change) { c.Texts = []string{""} },
	}
	has := map[int][]int{1: {0}, 2: {1, 7}, 3: {1, 2, 3, 4}, 4: {2, 8}, 5: {2}, 6: {2, 5, 6}}
	b := full(t)
	o := made(t, 2)
	for _, c := range []api.Change{reserve(30), grant(1, 8), lengthen(5, "a"), expire(5), settle(5, api.Result{})} {
		if !b.tries(c) {
			t.Fatalf("%+v is not taken", c)
		}
		for i, spoil := range spares {
			if d := c; !slices.Contains(has[c.Kind], i) {
				spoil(&d)
				b.refuses(0, d)
			}
		}
	}
	for i, spoil := range spares {
		if d := submit(1); !slices.Contains(has[2], i) {
			spoil(&d)
			o.refuses(0, d)
		}
	}
}

func TestP17_2Reserve(t *testing.T) {
	b := made(t, 1)
	for _, at := range []int{0, 1, 2, 127, 128, 300, 1 << 31, 1 << 32, top - 1, top} {
		if at > 0 {
			b.takes(reserve(at))
		}
		for _, n := range append([]int{0, 1, at - 1, at, at / 2}, far...) {
			if n <= at || n > top {
				b.refuses(0, reserve(n))
			}
		}
		for _, n := range []int{at + 1, at + 2, top} {
			if b.tries(reserve(n)) != (n > at && n <= top) {
				t.Errorf("behind %d: %d", at, n)
			}
		}
	}
	o := full(t)
	o.takes(reserve(21), reserve(22))
	o.refuses(2, reserve(23), reserve(25), reserve(24))
}

func TestP17_2Submit(t *testing.T) {
	b := made(t, 1)
	for count := 0; count <= 8; count++ {
		for _, job := range append([]int{0, 1, 2, 3, 4, 5, 6, 7, 8, 9, 10, 256 + count, 1<<32 + count + 1}, far...) {
			if b.tries(submit(job)) != (job == count+1 && job <= 8) {
				t.Errorf("the job %d behind %d", job, count)
			}
		}
		if count < 8 {
			b.takes(submit(count + 1))
		}
	}
	if b.s.Head() != 1 {
		t.Errorf("Head: %d", b.s.Head())
	}
}

func TestP17_2Programs(t *testing.T) {
	for _, n := range []int{0, 1, 2, 127, 128, 1023, 1024, 1025, 1026, 2048, 1 << 16, 1<<16 + 1} {
		for _, of := range []string{"z", "\x00", "\xff", "\n"} {
			b := made(t, 1)
			c := api.Change{Kind: api.ChSubmit, Job: 1, Program: strings.Repeat(of, n)}
			if n < 1 || n > 1024 {
				b.refuses(0, c)
				continue
			}
			b.takes(c)
			if got := b.s.View().Jobs[0]; got.Program != c.Program || len(got.Log) != 0 || got.Row != (api.Row{Job: 1, Status: api.Queued}) {
				t.Errorf("%+v", got)
			}
		}
	}
}

// Grants of every job of a state with all statuses, under badges about the reserved ones and about those that are there.
func TestP17_2Grant(t *testing.T) {
	b := full(t)
	for _, job := range append([]int{0, 1, 2, 3, 4, 5, 6, 7, 8, 9, 257, 1<<32 + 1}, far...) {
		queued := job == 1 || job == 2 || job == 8
		for _, badge := range append([]int{0, 1, 6, 7, 8, 9, 19, 20, 21, 22, top}, far...) {
			if b.tries(grant(job, badge)) != (queued && badge >= 8 && badge <= 20) {
				t.Errorf("the job %d under %d", job, badge)
			}
		}
	}
	for _, slot := range append([]int{0, 1, 2, 3, 4, 5, 6, 7, 8, 9, 16, 1 << 32}, far...) {
		for _, life := range append([]int{0, 1, 2, top - 1, top}, far...) {
			c := api.Change{Kind: api.ChGrant, Job: 1, Badge: 8, Slot: slot, Life: life}
			good := slot >= 0 && slot <= 7 && life >= 1 && life <= top
			if b.tries(c) != good {
				t.Errorf("to the slot %d, the life %d", slot, life)
			}
			if o := b.clone(); good {
				o.takes(c)
				if p, _ := o.s.Find(8); p.Row.Holder != (api.Addr{Node: 2 + slot, Life: life}) {
					t.Errorf("held by %+v", p.Row.Holder)
				}
			}
		}
	}
}

// Badges that are reserved are those that are reserved when the grant comes: in one row, in this order.
func TestP17_2GrantReserved(t *testing.T) {
	b := made(t, 2)
	b.takes(submit(1), submit(2))
	b.refuses(0, grant(1, 1))
	b.refuses(0, grant(1, 1), reserve(1))
	b.takes(reserve(1), grant(1, 1))
	b.refuses(0, grant(2, 2))
	b.refuses(1, reserve(2), grant(2, 3))
	b.takes(reserve(top), grant(2, top))
	b.refuses(1, expire(top), grant(2, top))
	b.refuses(1, expire(1), grant(1, 2)) // none is above the last one
}

// A grant empties the log, and that of its own job alone.
func TestP17_2GrantEmptiesTheLog(t *testing.T) {
	b := full(t)
	b.takes(grant(8, 9))
	for i, want := range []int{0, 0, 2, 0, 1, 3, 0, 0} {
		if got := len(b.s.View().Jobs[i].Log); got != want {
			t.Errorf("the job %d: %d texts", i+1, got)
		}
	}
	for texts := 0; texts <= 8; texts++ {
		b := made(t, 3)
		b.takes(reserve(9), submit(1), grant(1, 1))
		if texts > 0 {
			b.takes(lengthen(1, of(texts)...))
		}
		b.takes(expire(1))
		if got, ok := b.s.Find(1); !ok || len(got.Log) != texts {
			t.Errorf("the log of %d did not stay: %+v", texts, got)
		}
		b.takes(grant(1, 2), lengthen(2, "new"))
		if got, _ := b.s.Find(2); !slices.Equal(got.Log, []string{"new"}) {
			t.Errorf("behind %d texts: %+v", texts, got)
		}
	}
}

func TestP17_2Log(t *testing.T) {
	b := full(t)
	for _, badge := range append([]int{0, 1, 2, 3, 4, 5, 6, 7, 8, 20, 21, 1<<32 + 5, top}, far...) {
		if b.tries(lengthen(badge, "a")) != (badge == 5 || badge == 6) {
			t.Errorf("under %d", badge)
		}
	}
	for n := 0; n <= 20; n++ {
		if b.tries(lengthen(5, of(n)...)) != (n >= 1 && n <= 8) {
			t.Errorf("%d texts", n)
		}
	}
	for _, n := range []int{0, 1, 31, 32, 33, 34, 64, 256, 288, 1 << 16} {
		for _, x := range []string{"a", "\x00", "\xff"} {
			for place := range 8 {
				l := of(8)
				l[place] = strings.Repeat(x, n)
				if b.tries(lengthen(6, l...)) != (n <= 32) {
					t.Errorf("a text of %d at %d", n, place)
				}
			}
		}
	}
	b.takes(lengthen(6, "", "x", ""), lengthen(5, "y"), lengthen(6, "x"))
	if p, _ := b.s.Find(6); !slices.Equal(p.Log, []string{"", "x", "", "x"}) {
		t.Errorf("%q", p.Log)
	}
	if p, _ := b.s.Find(5); !slices.Equal(p.Log, []string{"6", "6", "", "y"}) {
		t.Errorf("%q", p.Log)
	}
}

// At every length of a log, every number of texts more: up to 32.
func TestP17_2LogIsFull(t *testing.T) {
	b := made(t, 1)
	b.takes(reserve(2), submit(1), submit(2), grant(1, 1), grant(2, 2))
	for n := 0; n <= 32; n++ {
		for more := 1; more <= 8; more++ {
			if b.tries(lengthen(1, of(more)...)) != (n+more <= 32) {
				t.Errorf("%d behind %d", more, n)
			}
		}
		if n < 32 {
			b.takes(lengthen(1, of(n + 1)[n]))
		}
	}
	b.takes(lengthen(2, of(8)...)) // the other one has room
	if p, _ := b.s.Find(1); !slices.Equal(p.Log, of(32)) {
		t.Errorf("%q", p.Log)
	}
	b.refuses(4, lengthen(2, of(8)...), lengthen(2, of(8)...), lengthen(2, of(7)...), lengthen(2, "a"), lengthen(2, "b"))
}

func TestP17_2ExpireAndSettle(t *testing.T) {
	b := full(t)
	for _, badge := range append([]int{0, 1, 2, 3, 4, 5, 6, 7, 8, 20, 21, 1<<32 + 5, top}, far...) {
		held := badge == 5 || badge == 6
		if b.tries(expire(badge)) != held {
			t.Errorf("Expire of %d", badge)
		}
		for _, code := range append([]int{0, 1, 2, 3, 4, 5, 6, 7, 8, 256, 1 << 32}, far...) {
			for _, bits := range []uint64{0, 1, 1 << 63, 0x7ff8000000000001, math.MaxUint64} {
				good := code == 0 || code >= 1 && code <= 7 && bits == 0
				if b.tries(settle(badge, api.Result{Code: code, Bits: bits})) != (held && good) {
					t.Errorf("Settle of %d with %d, %d", badge, code, bits)
				}
			}
		}
	}
	o := b.clone()
	o.takes(expire(5), settle(6, api.Result{Bits: 77}))
	if p, ok := o.s.Find(5); !ok || p.Row != (api.Row{Job: 6, Status: api.Queued, Attempts: 1, Badge: 5}) || len(p.Log) != 3 || o.s.Head() != 1 {
		t.Errorf("behind Expire: %+v", p)
	}
	if p, ok := o.s.Find(6); !ok || p.Row != (api.Row{Job: 7, Status: api.Recorded, Attempts: 1, Badge: 6, Result: api.Result{Bits: 77}}) {
		t.Errorf("behind Settle: %+v", p)
	}
	o.refuses(0, settle(5, api.Result{}))
	o.refuses(0, expire(6))
	o.refuses(1, grant(6, 8), grant(7, 9))
	o.takes(grant(6, 8))
	o.takes(expire(8))
	if p, _ := o.s.Find(8); p.Row.Status != api.Lost {
		t.Errorf("behind the last attempt: %+v", p)
	}
}

// Each change goes by what the ones ahead of it have made; the first that may not come is told, and nothing is done.
func TestP17_2AllOrNone(t *testing.T) {
	row := []api.Change{submit(1), reserve(3), grant(1, 1), lengthen(1, "a"), lengthen(1, "b", "c"), expire(1), submit(2), grant(2, 2), grant(1, 3), lengthen(2, "d"), settle(2, api.Result{Bits: 1}), reserve(9), expire(3)}
	wrong := []api.Change{{}, {Kind: 7}, reserve(0), reserve(1 << 41), submit(0), submit(9), grant(0, 1), grant(1, 0), grant(7, 9), lengthen(9, "a"), lengthen(0, "a"), {Kind: api.ChLog, Badge: 1}, expire(0), expire(9), settle(9, api.Result{})}
	for place := range len(row) + 1 {
		for _, c := range wrong {
			b := made(t, 2)
			b.refuses(place, slices.Insert(slices.Clone(row), place, c)...)
			b.refuses(place, slices.Insert(slices.Clone(row), place, c, c)...)
			b.takes(row...)
		}
		b := made(t, 2)
		b.takes(row[:place]...)
		for _, c := range row[:place] { // none of them comes twice, but the logs
			if c.Kind != api.ChLog {
				b.refuses(0, c)
			}
		}
		b.takes(row[place:]...)
	}
	for i := range row { // what one makes is missed by those behind it
		b := made(t, 2)
		b.apply(slices.Delete(slices.Clone(row), i, i+1)...)
		b.same()
	}
}

// A row of any length, which the words would go over for too long.
func TestP17_2LongRows(t *testing.T) {
	var l []api.Change
	for n := 1; n <= 100000; n++ {
		l = append(l, reserve(n))
	}
	s, _ := state.New(1)
	if at, e := s.Apply(l); at != 0 || e != api.OK || s.Reserved() != 100000 {
		t.Fatalf("Apply: %d, %v, %d", at, e, s.Reserved())
	}
	for _, place := range []int{0, 1, 65535, 65536, 99999, 100000} {
		s, _ := state.New(1)
		if at, e := s.Apply(slices.Insert(slices.Clone(l), place, reserve(0))); at != place || e != api.ErrStateChange || s.Bytes() != "\x00\x00" {
			t.Fatalf("Apply: %d, %v, not %d", at, e, place)
		}
	}
}

func TestP17_4FindAndHead(t *testing.T) {
	b := full(t)
	for badge, job := range []int{0, 3, 4, 0, 5, 6, 7, 8, 0} {
		p, ok := b.s.Find(badge)
		if ok != (job != 0) || p.Row.Job != job || ok && !samePlace(p, b.s.View().Jobs[job-1]) {
			t.Errorf("Find(%d): %+v, %v", badge, p, ok)
		}
	}
	for _, badge := range append([]int{9, 20, 21, 1<<32 + 5, top}, far...) {
		b.sameFind(badge)
	}
	for _, head := range []int{1, 2, 8, 0} {
		if b.s.Head() != head {
			t.Fatalf("Head: %d, not %d", b.s.Head(), head)
		}
		if head > 0 {
			b.takes(grant(head, 10+head))
		}
	}
	b.takes(expire(6))
	if b.s.Head() != 7 {
		t.Errorf("Head: %d", b.s.Head())
	}
}

func TestP17_4View(t *testing.T) {
	h := func(badge int) api.Addr { return grantHolder(grant(1, badge)) }
	want := api.View{Reserved: 20, Jobs: []api.Place{
		{Row: api.Row{Job: 1, Status: api.Queued}, Program: "p1"},
		{Row: api.Row{Job: 2, Status: api.Queued}, Program: "p2"},
		{Row: api.Row{Job: 3, Status: api.Recorded, Attempts: 1, Badge: 1, Result: api.Result{Bits: 5}}, Program: "p3", Log: []string{"3", "a"}},
		{Row: api.Row{Job: 4, Status: api.Recorded, Attempts: 1, Badge: 2, Result: api.Result{Code: 7}}, Program: "p4"},
		{Row: api.Row{Job: 5, Status: api.Lost, Attempts: 2, Badge: 4}, Program: "p5", Log: []string{"5"}},
		{Row: api.Row{Job: 6, Status: api.Held, Attempts: 1, Badge: 5, Holder: h(5)}, Program: "p6", Log: []string{"6", "6", ""}},
		{Row: api.Row{Job: 7, Status: api.Held, Attempts: 1, Badge: 6, Holder: h(6)}, Program: "p7"},
		{Row: api.Row{Job: 8, Status: api.Queued, Attempts: 1, Badge: 7}, Program: "p8", Log: []string{"8"}},
	}}
	if got := full(t).s.View(); !sameView(got, want) {
		t.Errorf("View: %+v, not %+v", got, want)
	}
}

func grantHolder(c api.Change) api.Addr { return api.Addr{Node: 2 + c.Slot, Life: c.Life} }
