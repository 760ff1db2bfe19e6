package wal_test

import (
	"math/rand/v2"
	"slices"
	"testing"

	"gaffer/api"
	"gaffer/disk"
	"gaffer/wal"
)

// cutIn: a call in which the n-th write is cut behind so many bytes: what stands on the disk then, what the dead log tells, and what Open does. The disk lives again.
func (c call) cutIn(t *testing.T, w *wal.Wal, d *disk.Disk, writes []api.Write, n, bytes int) {
	t.Helper()
	base, before := d.Sectors(), must(t, d.Sectors())
	room, records := w.Room(), w.Records()
	answers(t, d.Arm(n, bytes), api.OK)
	answers(t, c.do(w), api.ErrDead)
	want, e := disk.Cut(base, writes, n-1, bytes)
	if e != api.OK || !slices.Equal(d.Sectors(), want) {
		t.Fatalf("cut %d, %d: %q, not %q", n, bytes, d.Sectors(), want)
	}
	checkNumbers(t, w, room, records, true)
	answers(t, wal.Format(d), api.ErrDead)
	refused(t, d, api.ErrDead)
	d.Revive()
	answers(t, c.do(w), api.ErrDead)
	if !slices.Equal(d.Sectors(), want) {
		t.Fatal("a dead log wrote")
	}
	if n == len(writes) && bytes == 128 {
		before = c.behind(before)
	}
	checkOpen(t, d, before)
	answers(t, wal.Format(d), api.ErrWalThere)
}

// everyCut: each one of a call that is answered OK, on copies.
func (c call) everyCut(t *testing.T, w *wal.Wal, d *disk.Disk) {
	t.Helper()
	l := d.Sectors()
	writes, e := c.says(l, must(t, l))
	if e != api.OK {
		t.Fatal(e)
	}
	for n := 1; n <= len(writes); n++ {
		for bytes := range 129 {
			copied := d.Clone()
			c.cutIn(t, w.Clone(copied), copied, writes, n, bytes)
		}
	}
	copied := d.Clone()
	copied.Arm(len(writes)+1, 64)
	answers(t, c.do(w.Clone(copied)), api.OK)
}

func TestP9_7EveryCut(t *testing.T) {
	s := rand.New(rand.NewPCG(9, 7))
	w, d := fresh(t, 4)
	for _, c := range []call{
		{false, some(s, 1)}, {false, some(s, 200)}, {false, some(s, 120)}, {false, some(s, 120)}, {true, ""},
		{false, some(s, 126)}, {false, some(s, 127)}, {true, some(s, 300)}, {false, some(s, 3)}, {true, some(s, 512)}, {true, some(s, 128)},
	} {
		c.everyCut(t, w, d)
		c.step(t, w, d)
	}
}

// Where the head's number goes into the next byte, and at its end.
func TestP9_7EveryCutOfAHead(t *testing.T) {
	for _, number := range []uint64{253, 254, 255, 256, 257, 65534, 65535, 1<<32 - 1, 1<<32 + 1, mostNumber - 2, mostNumber - 1} {
		for _, c := range []call{{false, "b"}, {true, "s"}} {
			l := []string{noughts(""), noughts(""), noughts("\x01a\x01b"), noughts("older")}
			l[number%2] = headBytes(number, 0, 0, 2)
			l[1-number%2] = headBytes(number-1, 1, 5, 0)
			d := loaded(t, 4, l...)
			c.everyCut(t, open(t, d), d)
		}
	}
}

// Cuts one behind the other, on one disk; and what was answered OK stays till a snapshot takes its place.
func TestP9_7ManyCuts(t *testing.T) {
	s := rand.New(rand.NewPCG(7, 9))
	cuts := 0
	for range 60 {
		h := 1 + s.IntN(5)
		w, d := fresh(t, h)
		want := must(t, d.Sectors())
		for range 40 {
			c := someCall(s, h)
			l := d.Sectors()
			writes, e := c.says(l, want)
			switch {
			case e != api.OK || s.IntN(3) == 0:
				c.step(t, w, d)
				if e == api.OK {
					want = c.behind(want)
				}
			default:
				n, bytes := someCut(s, len(writes))
				c.cutIn(t, w, d, writes, n, bytes)
				if n == len(writes) && bytes == 128 {
					want = c.behind(want)
				}
				w = open(t, d)
				cuts++
			}
			checkOpen(t, d, want)
		}
	}
	if cuts < 500 {
		t.Error("too few cuts: ", cuts)
	}
}

// someCut: many of them in the head, and at its ends.
func someCut(s *rand.Rand, writes int) (int, int) {
	n, bytes := 1+s.IntN(writes), s.IntN(129)
	if s.IntN(2) == 0 {
		n = writes
	}
	if s.IntN(3) == 0 {
		bytes = []int{0, 1, 7, 8, 9, 120, 127, 128}[s.IntN(8)]
	}
	return n, bytes
}
