package state_test

import (
	"encoding/binary"
	"encoding/hex"
	"math"
	"math/rand"
	"slices"
	"strings"
	"testing"

	"gaffer/api"
	"gaffer/state"
)

// fromHex: bytes that are written in base sixteen.
func fromHex(t *testing.T, s string) string {
	t.Helper()
	b, err := hex.DecodeString(strings.ReplaceAll(s, " ", ""))
	if err != nil {
		t.Fatal(err)
	}
	return string(b)
}

// By hand, field by field.
func TestP17_3BytesByHand(t *testing.T) {
	b := made(t, 2)
	check := func(want string) {
		t.Helper()
		if got := b.s.Bytes(); got != fromHex(t, want) {
			t.Errorf("Bytes: % x, not %s", got, want)
		}
		b.same()
	}
	check("00 00")
	b.takes(reserve(300))
	check("ac 02 00")
	b.takes(api.Change{Kind: api.ChSubmit, Job: 1, Program: "pq"})
	check("ac 02 01  01 00 00 00 00 00 0000000000000000 02 70 71 00")
	b.takes(api.Change{Kind: api.ChGrant, Job: 1, Badge: 200, Slot: 7, Life: 128})
	check("ac 02 01  02 01 c8 01 09 80 01 00 0000000000000000 02 70 71 00")
	b.takes(lengthen(200, "", "a"))
	check("ac 02 01  02 01 c8 01 09 80 01 00 0000000000000000 02 70 71 02 00 01 61")
	o := b.clone()
	b.takes(settle(200, api.Result{Bits: 0x0102030405060708}))
	check("ac 02 01  03 01 c8 01 00 00 00 0102030405060708 02 70 71 02 00 01 61")
	b = o.clone()
	b.takes(settle(200, api.Result{Code: 7}))
	check("ac 02 01  03 01 c8 01 00 00 07 0000000000000000 02 70 71 02 00 01 61")
	b = o
	b.takes(expire(200))
	check("ac 02 01  01 01 c8 01 00 00 00 0000000000000000 02 70 71 02 00 01 61")
	b.takes(submit(2), grant(1, 201), expire(201))
	check("ac 02 02  04 02 c9 01 00 00 00 0000000000000000 02 70 71 00  01 00 00 00 00 00 0000000000000000 02 70 32 00")
}

// The greatest state: eight jobs, each with the longest of all; its bytes are counted by hand.
func TestP17_5GreatestBytes(t *testing.T) {
	b := made(t, 1)
	b.takes(reserve(top))
	for job := 1; job <= 8; job++ {
		b.takes(api.Change{Kind: api.ChSubmit, Job: job, Program: long(1024)})
		badge := top - 8 + job
		b.takes(api.Change{Kind: api.ChGrant, Job: job, Badge: badge, Slot: 7, Life: top})
		for range 4 {
			b.takes(lengthen(badge, slices.Repeat([]string{long(32)}, 8)...))
		}
	}
	want := 6 + 1 + 8*(1+1+6+1+6+1+8+2+1024+1+32*33)
	if n := len(b.s.Bytes()); n != want || n > 17000 {
		t.Errorf("%d bytes, not %d", n, want)
	}
	again, _ := loads(t, 1, b.s.Bytes())
	again.takes(expire(top))
}

func TestP17_3LoadArg(t *testing.T) {
	good := []string{"\x00\x00", made(t, 1).s.Bytes(), full(t).s.Bytes()}
	for _, most := range append([]int{0, 9, 10, 16, 257, 1<<32 + 1, top}, far...) {
		for _, s := range append([]string{"", "\x00", "x", "\x00\x00\x00", "\x00\x09"}, good...) {
			if x, e := state.Load(most, s); x != nil || e != api.ErrArg {
				t.Errorf("Load(%d, %x): %v, %v", most, s, x, e)
			}
		}
	}
}

// Of the same bytes another most may make none: a row that is queued, or lost, stands against it.
func TestP17_3LoadMost(t *testing.T) {
	for attempts := 0; attempts <= 9; attempts++ {
		for status := 0; status <= 5; status++ {
			for most := 1; most <= 8; most++ {
				r := api.Row{Job: 1, Status: status, Attempts: attempts, Badge: min(attempts, 1)}
				if status == 2 {
					r.Holder = api.Addr{Node: 2, Life: 1}
				}
				_, ok := loads(t, most, bytesOf(api.View{Reserved: 1, Jobs: []api.Place{{Row: r, Program: "p"}}}))
				want := status == 1 && attempts < most || status >= 2 && status <= 3 && attempts >= 1 && attempts <= most || status == 4 && attempts == most
				if ok != want {
					t.Errorf("Load(%d, %+v): %v", most, r, ok)
				}
			}
		}
	}
}

// sample is a view with a job in each status, which may be under a most of 2.
func sample() api.View {
	return api.View{Reserved: 300, Jobs: []api.Place{
		{Row: api.Row{Job: 1, Status: 1}, Program: "p"},
		{Row: api.Row{Job: 2, Status: 1, Attempts: 1, Badge: 299}, Program: "pp", Log: []string{"a"}},
		{Row: api.Row{Job: 3, Status: 2, Attempts: 2, Badge: 300, Holder: api.Addr{Node: 9, Life: 200}}, Program: "\x00", Log: []string{"", "b"}},
		{Row: api.Row{Job: 4, Status: 3, Attempts: 1, Badge: 1, Result: api.Result{Bits: 1 << 63}}, Program: "pppp", Log: []string{"c"}},
		{Row: api.Row{Job: 5, Status: 4, Attempts: 2, Badge: 7}, Program: "p5"},
	}}
}

// Each field of each job at and about its bounds.
func TestP17_3LoadFields(t *testing.T) {
	numbers := []int{0, 1, 2, 3, 4, 5, 6, 7, 8, 9, 10, 127, 128, 299, 300, 301, top - 1, top, top + 1, 1<<32 + 1, 1<<32 + 2, math.MaxInt}
	fields := []func(r *api.Row, n int){
		func(r *api.Row, n int) { r.Status = n },
		func(r *api.Row, n int) { r.Attempts = n },
		func(r *api.Row, n int) { r.Badge = n },
		func(r *api.Row, n int) { r.Holder.Node = n },
		func(r *api.Row, n int) { r.Holder.Life = n },
		func(r *api.Row, n int) { r.Result.Code = n },
		func(r *api.Row, n int) { r.Result.Bits = uint64(n) },
	}
	standing(t, 2, sample())
	taken := 0
	for i := range sample().Jobs {
		for f, first := range fields {
			for _, n := range numbers {
				v := sample()
				first(&v.Jobs[i].Row, n)
				if _, ok := loads(t, 2, bytesOf(v)); ok {
					taken++
				}
				for _, second := range fields[:f] {
					for _, m := range numbers {
						v := sample()
						first(&v.Jobs[i].Row, n)
						second(&v.Jobs[i].Row, m)
						loads(t, 2, bytesOf(v))
					}
				}
			}
		}
	}
	if taken < 60 || taken > 250 {
		t.Errorf("%d are taken", taken)
	}
}

func TestP17_3LoadReserved(t *testing.T) {
	for _, n := range []int{0, 1, 2, top - 1, top, top + 1, 2 * top, 1<<32 + top, math.MaxInt} {
		if _, ok := loads(t, 1, bytesOf(api.View{Reserved: n})); ok != (n <= top) {
			t.Errorf("Reserved %d", n)
		}
	}
	if s, e := state.Load(1, fromHex(t, "ff ff ff ff ff ff ff ff ff 01 00")); s != nil || e != api.ErrStateForm {
		t.Errorf("Reserved 2^64 - 1: %v, %v", s, e)
	}
	for i, p := range sample().Jobs { // no badge is above it, whatever its job's status
		for d := -2; d <= 2; d++ {
			v := sample()
			v.Jobs = v.Jobs[:0]
			for job, q := range sample().Jobs {
				if q.Row.Badge > 0 {
					q.Row.Badge = 10 + job
				}
				if job == i && q.Row.Badge > 0 {
					q.Row.Badge = 50
				}
				v.Jobs = append(v.Jobs, q)
			}
			v.Reserved = 50 + d
			if _, ok := loads(t, 2, bytesOf(v)); ok != (d >= 0 || p.Row.Badge == 0) {
				t.Errorf("the job %d under 50, reserved %d", i+1, v.Reserved)
			}
		}
	}
}

func TestP17_3LoadJobs(t *testing.T) {
	for _, n := range []int{0, 1, 7, 8, 9, 10, 16, 128, 200} {
		var v api.View
		for job := 1; job <= n; job++ {
			v.Jobs = append(v.Jobs, api.Place{Row: api.Row{Job: job, Status: 1}, Program: "p"})
		}
		if _, ok := loads(t, 1, bytesOf(v)); ok != (n <= 8) {
			t.Errorf("%d jobs", n)
		}
	}
	for _, n := range []uint64{1, 8, 9, 1 << 32, 1<<32 + 1, 1 << 63, math.MaxUint64} { // so many are told, and none is there
		loads(t, 1, string(binary.AppendUvarint([]byte{5}, n)))
	}
}

func TestP17_3LoadTwoOfOneBadge(t *testing.T) {
	for i := range sample().Jobs {
		for j := range i {
			v := sample()
			v.Jobs[i].Row.Badge = v.Jobs[j].Row.Badge
			loads(t, 2, bytesOf(v))
		}
	}
}

func TestP17_3LoadPrograms(t *testing.T) {
	for i := range sample().Jobs {
		for _, n := range []int{0, 1, 127, 128, 1023, 1024, 1025, 2048, 1 << 16} {
			v := sample()
			v.Jobs[i].Program = long(n)
			if _, ok := loads(t, 2, bytesOf(v)); ok != (n >= 1 && n <= 1024) {
				t.Errorf("the job %d: a program of %d", i+1, n)
			}
		}
	}
}

func TestP17_3LoadLogs(t *testing.T) {
	for i, p := range sample().Jobs {
		for _, n := range []int{0, 1, 2, 8, 9, 31, 32, 33, 34, 64, 128, 200} {
			v := sample()
			v.Jobs[i].Log = of(n)
			if _, ok := loads(t, 2, bytesOf(v)); ok != (n <= 32 && (n == 0 || p.Row.Attempts > 0)) {
				t.Errorf("the job %d: a log of %d", i+1, n)
			}
			v.Jobs[i].Log = make([]string, n) // empty texts are texts
			loads(t, 2, bytesOf(v))
		}
		for _, n := range []int{0, 1, 31, 32, 33, 127, 128, 1024} {
			for place := range 4 {
				v := sample()
				v.Jobs[i].Log = of(4)
				v.Jobs[i].Log[place] = long(n)
				if _, ok := loads(t, 2, bytesOf(v)); ok != (n <= 32 && p.Row.Attempts > 0) {
					t.Errorf("the job %d: a text of %d", i+1, n)
				}
			}
		}
	}
}

// One form: no beginning, nothing behind it, no number with noughts in front.
func TestP17_3LoadOneForm(t *testing.T) {
	whole := []string{bytesOf(sample()), full(t).s.Bytes(), "\x00\x00", bytesOf(api.View{Reserved: 9})}
	for _, s := range whole {
		for n := range len(s) {
			if _, ok := loads(t, 2, s[:n]); ok {
				t.Errorf("%x is taken", s[:n])
			}
			for _, x := range []string{"\x00", "\x01", "\x80", "\xff"} {
				loads(t, 2, s[:n]+x+s[n:])
			}
			loads(t, 2, s[:n]+s[n+1:])
			if s[n] < 128 { // the same number, were it one, with a group more
				loads(t, 2, s[:n]+string([]byte{s[n] | 128, 0})+s[n+1:])
			}
			for c := range 256 {
				loads(t, 2, s[:n]+string([]byte{byte(c)})+s[n+1:])
			}
		}
		for _, x := range []string{"\x00", "\x01", "\xff", "\x00\x00", s} {
			if _, ok := loads(t, 2, s+x); ok {
				t.Errorf("%x is taken", s+x)
			}
		}
	}
}

// Views that may be, under any most; then some bytes of them are others.
func TestP17_3LoadAny(t *testing.T) {
	rnd := rand.New(rand.NewSource(17))
	for range 1500 {
		most := 1 + rnd.Intn(8)
		v := anyView(rnd, most)
		s := standing(t, most, v).s.Bytes()
		if s != bytesOf(v) {
			t.Fatalf("%x became %x", bytesOf(v), s)
		}
		loads(t, 1+rnd.Intn(8), s)
		for range 20 {
			b := []byte(s)
			for range 1 + rnd.Intn(3) {
				b[rnd.Intn(len(b))] = []byte{0, 1, 2, 3, 4, 127, 128, 255, byte(rnd.Intn(256))}[rnd.Intn(9)]
			}
			loads(t, most, string(b))
		}
	}
	for range 20000 {
		b := make([]byte, rnd.Intn(40))
		for i := range b {
			b[i] = byte(rnd.Intn(256)) & []byte{3, 15, 255}[rnd.Intn(3)]
		}
		loads(t, 1+rnd.Intn(8), string(b))
	}
}

// A state that no changes make from the beginning may still be: many attempts, small badges. It goes on as the words say.
func TestP17_3LoadNeedsNoStory(t *testing.T) {
	v := api.View{Reserved: 2, Jobs: []api.Place{
		{Row: api.Row{Job: 1, Status: 1, Attempts: 7, Badge: 1}, Program: "p", Log: of(32)},
		{Row: api.Row{Job: 2, Status: 4, Attempts: 8, Badge: 2}, Program: "p"},
	}}
	b := standing(t, 8, v)
	b.refuses(0, grant(1, 2))
	b.refuses(0, grant(1, 3))
	b.takes(reserve(3), grant(1, 3), lengthen(3, "a"))
	b.takes(expire(3))
	if r := b.s.View().Jobs[0].Row; r.Status != api.Lost || r.Attempts != 8 {
		t.Errorf("%+v", r)
	}
}

func FuzzP17_3Load(f *testing.F) {
	f.Add(1, "\x00\x00")
	f.Add(2, bytesOf(sample()))
	f.Fuzz(func(t *testing.T, most int, s string) {
		if b, ok := loads(t, most, s); ok && b.s.Bytes() != s {
			t.Fatalf("%x became %x", s, b.s.Bytes())
		}
	})
}
