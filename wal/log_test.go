package wal_test

import (
	"math/rand/v2"
	"slices"
	"strings"
	"testing"
	"unsafe"

	"gaffer/api"
	"gaffer/disk"
	"gaffer/wal"
)

func xs(n int) string { return strings.Repeat("x", n) }

func answers(t *testing.T, e, want api.Errno) {
	t.Helper()
	if e != want {
		t.Errorf("%d, not %d", e, want)
	}
}

func TestP9_3P9_4P9_5Examples(t *testing.T) {
	w, d := fresh(t, 2)
	checkNumbers(t, w, 254, 0, false)
	answers(t, w.Append(""), api.ErrWalLong)
	answers(t, w.Append("ab"), api.OK)
	if l := d.Sectors(); l[2] != noughts("\x02ab") || l[0] != headBytes(2, 0, 0, 3) {
		t.Errorf("%q", l)
	}
	answers(t, w.Append(xs(253)), api.ErrWalRoom)
	checkNumbers(t, w, 251, 1, false)
	answers(t, w.Append(xs(251)), api.OK)
	checkNumbers(t, w, 0, 2, false)
	answers(t, w.Snapshot("s"), api.OK)
	checkNumbers(t, w, 253, 0, false)
	checkOpen(t, d, told{number: 4, half: 1, snapshot: "s"})
	answers(t, d.Arm(2, 100), api.OK)
	answers(t, w.Append("x"), api.ErrDead)
	checkNumbers(t, w, 253, 0, true)
	answers(t, w.Append("y"), api.ErrDead)
	d.Revive()
	checkOpen(t, d, told{number: 4, half: 1, snapshot: "s"})
}

// Records that begin and end at all places of a sector, and the longest and the shortest ones.
func TestP9_3Places(t *testing.T) {
	for ahead := 1; ahead < 131; ahead++ {
		for _, n := range []int{1, 2, 125, 126, 127, 128, 129, 254, 255, 256, 257, 300} {
			w, d := fresh(t, 4)
			call{false, xs(ahead)}.step(t, w, d)
			call{false, strings.Repeat("y", n)}.step(t, w, d)
		}
	}
	w, d := fresh(t, 40)
	for _, n := range []int{0, 1, 2047, 2048, 2049, 100, 3000} {
		call{false, xs(n)}.step(t, w, d)
	}
}

// The half's last bytes: a record that just fits, and one that is a byte too long.
func TestP9_3TheEndOfAHalf(t *testing.T) {
	for _, h := range []int{1, 2, 3, 17} {
		for snapshot := max(0, 128*h-400); snapshot <= 128*h; snapshot++ {
			w, d := fresh(t, h)
			if e := w.Snapshot(xs(snapshot)); e != api.OK {
				t.Fatal(e)
			}
			room := w.Room()
			if want := roomBy(d.Sectors(), must(t, d.Sectors())); room != want {
				t.Fatalf("%d of %d bytes: room %d, not %d", snapshot, 128*h, room, want)
			}
			if snapshot%9 > 0 && room > 3 {
				continue
			}
			call{false, xs(room + 1)}.step(t, w, d)
			call{false, xs(room)}.step(t, w, d)
			call{false, "z"}.step(t, w, d)
		}
	}
}

// Whatever stood behind the log, in its half and in the other one, noughts stand behind the frame to its sector's end, and other sectors stay.
func TestP9_3P9_4WhatStoodThere(t *testing.T) {
	s := rand.New(rand.NewPCG(9, 3))
	for range 300 {
		h := 1 + s.IntN(5)
		l := make([]string, 2+2*h)
		for i := range l {
			l[i] = some(s, 128)
		}
		number := 1 + s.Uint64N(mostNumber-100)
		l[number%2] = headBytes(number, uint32(s.IntN(2)), uint32(s.IntN(128*h+1)), 0)
		d := loaded(t, len(l), l...)
		w := open(t, d)
		for range 8 {
			someCall(s, h).step(t, w, d)
		}
	}
}

func TestP9_4Lengths(t *testing.T) {
	for _, h := range []int{1, 2, 132, 133, 160, 512} {
		w, d := fresh(t, h)
		for _, n := range []int{0, 1, 127, 128, 129, 255, 256, 257, 128*h - 1, 128 * h, 128*h + 1, 16999, 17000, 17001, 70000} {
			call{true, xs(n)}.step(t, w, d)
			call{false, "r"}.step(t, w, d)
		}
	}
}

// An empty snapshot is written by its head alone.
func TestP9_4Empty(t *testing.T) {
	w, d := fresh(t, 2)
	w.Append("a")
	d.Forget()
	answers(t, w.Snapshot(""), api.OK)
	if !slices.Equal(d.Raw(), []api.Write{{Sector: 1, Data: headBytes(3, 1, 0, 0)}}) {
		t.Errorf("%v", d.Raw())
	}
	checkNumbers(t, w, 254, 0, false)
}

func TestP9_3P9_4Walks(t *testing.T) {
	s := rand.New(rand.NewPCG(3, 9))
	for range 120 {
		h := 1 + s.IntN(12)
		w, d := fresh(t, h)
		for range 25 {
			someCall(s, h).step(t, w, d)
			if s.IntN(6) == 0 {
				w = open(t, d)
			}
		}
	}
}

// atNumber: a log of which a head of this number counts, with a record `a`.
func atNumber(t *testing.T, number uint64) (*wal.Wal, *disk.Disk) {
	t.Helper()
	l := []string{noughts(""), noughts(""), noughts("\x01a")}
	l[number%2] = headBytes(number, 0, 0, 2)
	d := loaded(t, 4, l...)
	return open(t, d), d
}

func TestP9_3P9_4TheLastHead(t *testing.T) {
	for _, c := range []call{{false, "b"}, {true, "s"}, {true, ""}} {
		w, d := atNumber(t, mostNumber-2)
		c.step(t, w, d)
		c.step(t, w, d)
		if must(t, d.Sectors()).number != mostNumber {
			t.Error("not the last one")
		}
		d.Forget()
		answers(t, w.Append("b"), api.ErrWalEnd)
		answers(t, w.Snapshot("b"), api.ErrWalEnd)
		answers(t, w.Snapshot(""), api.ErrWalEnd)
		if len(d.Raw()) > 0 {
			t.Error("it wrote")
		}
		check(t, w, d)
	}
}

// R2: dead, long, room, end, in this order.
func TestR2OrderOfErrors(t *testing.T) {
	w, d := atNumber(t, mostNumber)
	for _, n := range []int{0, 2049, 3000} {
		answers(t, w.Append(xs(n)), api.ErrWalLong)
	}
	for _, n := range []int{126, 127, 2048} {
		answers(t, w.Append(xs(n)), api.ErrWalRoom)
	}
	answers(t, w.Append(xs(125)), api.ErrWalEnd)
	for _, n := range []int{129, 17001} {
		answers(t, w.Snapshot(xs(n)), api.ErrWalLong)
	}
	answers(t, w.Snapshot(xs(128)), api.ErrWalEnd)
	check(t, w, d)
	kill(t, d)
	for _, n := range []int{0, 1, 126, 2049, 17001} {
		for _, snapshot := range []bool{false, true} {
			one := w.Clone(d)
			answers(t, call{snapshot, xs(n)}.do(one), api.ErrDead)
			checkNumbers(t, one, 125, 1, true)
		}
	}
	checkNumbers(t, w, 125, 1, false)
	d.Revive()
	answers(t, w.Append(""), api.ErrWalLong)
}

// A refused call leaves nothing behind: also none that a later one could stand on.
func TestR2RefusedCallsChangeNothing(t *testing.T) {
	w, d := fresh(t, 1)
	w.Append("a")
	before := d.Sectors()
	for _, c := range []call{{false, ""}, {false, xs(126)}, {false, xs(2049)}, {true, xs(129)}, {true, xs(20000)}} {
		c.step(t, w, d)
		if !slices.Equal(d.Sectors(), before) {
			t.Errorf("%d bytes: %q", len(c.text), d.Sectors())
		}
	}
	call{false, "b"}.step(t, w, d)
}

func TestP9_5RoomAtTheRecordsBound(t *testing.T) {
	for left, want := range map[int]int{2047: 2045, 2048: 2046, 2049: 2047, 2050: 2048, 2051: 2048, 4000: 2048, 129: 127, 130: 128, 131: 129, 128: 127, 2: 1, 1: 0, 0: 0} {
		w, _ := fresh(t, 40)
		answers(t, w.Snapshot(xs(128*40-left)), api.OK)
		if w.Room() != want {
			t.Errorf("%d bytes are left: room for %d", left, w.Room())
		}
	}
}

// The disk's death is the log's only when a call of the log was answered so; and then for good.
func TestP9_5Dead(t *testing.T) {
	for _, c := range []call{{false, "r"}, {false, ""}, {true, "s"}, {true, xs(9999)}} {
		w, d := fresh(t, 2)
		w.Append("a")
		kill(t, d)
		if w.Dead() {
			t.Error("no call was answered so")
		}
		d.Revive()
		call{false, "b"}.step(t, w, d)
		kill(t, d)
		answers(t, c.do(w), api.ErrDead)
		d.Revive()
		checkNumbers(t, w, 250, 2, true)
		d.Forget()
		for _, again := range []call{{false, "r"}, {false, ""}, {true, "s"}, {true, xs(9999)}} {
			answers(t, again.do(w), api.ErrDead)
		}
		checkNumbers(t, w, 250, 2, true)
		if len(d.Raw()) > 0 {
			t.Error("a dead log wrote")
		}
		checkNumbers(t, w.Clone(d), 250, 2, true)
		check(t, open(t, d), d)
	}
}

// Clones, each with its disk, go their own ways, cuts too.
func TestP9_5Clones(t *testing.T) {
	s := rand.New(rand.NewPCG(9, 5))
	for range 60 {
		w, d := fresh(t, 3)
		logs, disks := []*wal.Wal{w}, []*disk.Disk{d}
		for range 25 {
			i := s.IntN(len(logs))
			if s.IntN(4) == 0 {
				d := disks[i].Clone()
				logs, disks = append(logs, logs[i].Clone(d)), append(disks, d)
				continue
			}
			stepOrDie(t, s, logs[i], disks[i])
		}
		for i, w := range logs {
			if !w.Dead() {
				check(t, w, disks[i])
			}
		}
	}
}

// stepOrDie: a call, now and then with a cut in it; dead logs stay so.
func stepOrDie(t *testing.T, s *rand.Rand, w *wal.Wal, d *disk.Disk) {
	t.Helper()
	c := someCall(s, 3)
	if w.Dead() {
		before := d.Sectors()
		answers(t, c.do(w), api.ErrDead)
		if !slices.Equal(d.Sectors(), before) {
			t.Fatal("a dead log wrote")
		}
		return
	}
	l := d.Sectors()
	writes, e := c.says(l, must(t, l))
	if e == api.OK && s.IntN(8) == 0 {
		room, records := w.Room(), w.Records()
		d.Arm(1+s.IntN(len(writes)), s.IntN(129))
		answers(t, c.do(w), api.ErrDead)
		checkNumbers(t, w, room, records, true)
		d.Revive()
		return
	}
	c.step(t, w, d)
}

// What is promised when somebody else writes, or a clone stands on another disk, is that calls end and don't panic.
func TestP9_6R1SomebodyElse(t *testing.T) {
	s := rand.New(rand.NewPCG(9, 6))
	for range 300 {
		h := 1 + s.IntN(3)
		w, d := fresh(t, h)
		for range 10 {
			d.Write(s.IntN(d.Size()), some(s, 128))
			someCall(s, h).do(w)
			w.Room()
			w.Records()
			wal.Format(d)
			wal.Open(d)
		}
		other := w.Clone(blank(t, 1+s.IntN(9)))
		for range 10 {
			someCall(s, h).do(other)
			other.Snapshot("")
			other.Room()
			other.Records()
			other.Dead()
		}
	}
}

// within: does a text lie in the memory of another?
func within(part, whole string) bool {
	if part == "" || whole == "" {
		return false
	}
	from, at := uintptr(unsafe.Pointer(unsafe.StringData(whole))), uintptr(unsafe.Pointer(unsafe.StringData(part)))
	return from <= at && at < from+uintptr(len(whole))
}

// R4: what is written is no piece of what was handed in, and what Open answers is nobody else's.
func TestR4AnswersAreNewMemory(t *testing.T) {
	w, d := fresh(t, 3)
	long := xs(300)
	w.Snapshot(long[:128])
	w.Append(long[:127])
	for _, write := range d.Raw() {
		if within(write.Data, long) {
			t.Error("a write keeps what was handed in")
		}
	}
	w.Append("b")
	one, snapshot, records, _ := wal.Open(d)
	_, again, others, _ := wal.Open(d)
	all := append(slices.Clone(records), snapshot)
	for i, text := range all {
		for j, other := range append(slices.Clone(others), again) {
			if len(text) > 1 && (within(text, other) || i != j && (within(text, all[j]) || within(all[j], text))) {
				t.Error("texts share memory")
			}
		}
	}
	for i := range records[:cap(records)] {
		records[:cap(records)][i] = "spoilt"
	}
	if _, _, l, _ := wal.Open(d); !slices.Equal(l, others) || one.Records() != 2 {
		t.Errorf("%q", l)
	}
	check(t, one, d)
}
