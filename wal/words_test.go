package wal_test

import (
	"encoding/binary"
	"math/rand/v2"
	"slices"
	"strings"
	"testing"

	"gaffer/api"
	"gaffer/disk"
	"gaffer/wal"
)

// The chapter's words, told a second time: of a disk's sectors alone, with another library's bytes.

const mostNumber = 1 << 40

func noughts(s string) string { return s + strings.Repeat("\x00", 128-len(s)) }

func headBytes(number uint64, half, snapshot, log uint32) string {
	var b []byte
	b = binary.BigEndian.AppendUint64(b, number)
	b = append(b, byte(half))
	b = binary.BigEndian.AppendUint32(b, snapshot)
	b = binary.BigEndian.AppendUint32(b, log)
	b = append(b, make([]byte, 103)...)
	return string(binary.BigEndian.AppendUint64(b, number))
}

func frame(record string) string {
	return string(binary.AppendUvarint(nil, uint64(len(record)))) + record
}

// told is what a disk says by a head.
type told struct {
	number   uint64
	half     int
	snapshot string
	log      string
	records  []string
}

func (x told) used() int { return len(x.snapshot) + len(x.log) }

func (x told) same(snapshot string, records []string) bool {
	return x.snapshot == snapshot && slices.Equal(x.records, records)
}

// halfOf: all bytes of a half.
func halfOf(l []string, half int) string {
	h := (len(l) - 2) / 2
	return strings.Join(l[2+half*h:2+half*h+h], "")
}

func framesOf(row string) ([]string, bool) {
	var records []string
	for row != "" {
		n, size := binary.Uvarint([]byte(row))
		if size <= 0 || n < 1 || n > 2048 || int(n) > len(row)-size {
			return nil, false
		}
		record := row[size : size+int(n)]
		if !strings.HasPrefix(row, frame(record)) {
			return nil, false
		}
		records = append(records, record)
		row = row[size+int(n):]
	}
	return records, true
}

// saysHead: what the head of this sector tells, if it is right.
func saysHead(l []string, sector int) (told, bool) {
	b := []byte(l[sector])
	number, half := binary.BigEndian.Uint64(b), int(b[8])
	snapshot, log := int(binary.BigEndian.Uint32(b[9:])), int(binary.BigEndian.Uint32(b[13:]))
	if number != binary.BigEndian.Uint64(b[120:]) || strings.Trim(l[sector][17:120], "\x00") != "" || half > 1 {
		return told{}, false
	}
	if number < 1 || number > mostNumber || int(number%2) != sector {
		return told{}, false
	}
	if snapshot > 17000 || snapshot+log > 128*(len(l)-2)/2 {
		return told{}, false
	}
	all := halfOf(l, half)
	x := told{number: number, half: half, snapshot: all[:snapshot], log: all[snapshot : snapshot+log]}
	records, whole := framesOf(x.log)
	x.records = records
	return x, whole
}

// says: what these sectors tell, of a disk that fits.
func says(l []string) (told, bool) {
	zero, right0 := saysHead(l, 0)
	one, right1 := saysHead(l, 1)
	if right0 && (!right1 || zero.number > one.number) {
		return zero, true
	}
	return one, right1
}

// must: of sectors on which there is a log.
func must(t *testing.T, l []string) told {
	t.Helper()
	x, right := says(l)
	if !right {
		t.Fatal("no head is right")
	}
	return x
}

// roomBy: the longest record whose frame fits, all lengths tried.
func roomBy(l []string, x told) int {
	room := 0
	for n := 1; n <= 2048; n++ {
		length := binary.PutUvarint(make([]byte, 10), uint64(n))
		if x.used()+length+n <= 64*(len(l)-2) {
			room = n
		}
	}
	return room
}

// writesOf: the raw writes that change a half's bytes from the place on, and then the head.
func writesOf(l []string, half int, bytes string, from, to int, head string, number uint64) []api.Write {
	var writes []api.Write
	for len(bytes)%128 != 0 {
		bytes += "\x00"
	}
	for s := from / 128; s*128 < to; s++ {
		writes = append(writes, api.Write{Sector: 2 + half*(len(l)-2)/2 + s, Data: bytes[128*s : 128*s+128]})
	}
	return append(writes, api.Write{Sector: int(number % 2), Data: head})
}

// call is one of the two that write.
type call struct {
	snapshot bool
	text     string
}

func (c call) do(w *wal.Wal) api.Errno {
	if c.snapshot {
		return w.Snapshot(c.text)
	}
	return w.Append(c.text)
}

// says: what a live log is to answer, and to write.
func (c call) says(l []string, x told) ([]api.Write, api.Errno) {
	next := x.number + 1
	if c.snapshot {
		switch {
		case len(c.text) > 17000 || len(c.text) > 64*(len(l)-2):
			return nil, api.ErrWalLong
		case x.number == mostNumber:
			return nil, api.ErrWalEnd
		}
		head := headBytes(next, uint32(1-x.half), uint32(len(c.text)), 0)
		return writesOf(l, 1-x.half, c.text, 0, len(c.text), head, next), api.OK
	}
	to := x.used() + len(frame(c.text))
	switch {
	case len(c.text) == 0 || len(c.text) > 2048:
		return nil, api.ErrWalLong
	case to > 64*(len(l)-2):
		return nil, api.ErrWalRoom
	case x.number == mostNumber:
		return nil, api.ErrWalEnd
	}
	bytes := halfOf(l, x.half)[:x.used()] + frame(c.text)
	head := headBytes(next, uint32(x.half), uint32(len(x.snapshot)), uint32(to-len(x.snapshot)))
	return writesOf(l, x.half, bytes, x.used(), to, head, next), api.OK
}

// behind: what the log is to tell when the call was answered OK.
func (c call) behind(x told) told {
	if c.snapshot {
		return told{number: x.number + 1, half: 1 - x.half, snapshot: c.text}
	}
	x.number++
	x.log += frame(c.text)
	x.records = append(slices.Clone(x.records), c.text)
	return x
}

// check: a live log stands on its disk as the words say.
func check(t *testing.T, w *wal.Wal, d *disk.Disk) {
	t.Helper()
	l := d.Sectors()
	checkNumbers(t, w, roomBy(l, must(t, l)), len(must(t, l).records), false)
	checkOpen(t, d, must(t, l))
}

func checkNumbers(t *testing.T, w *wal.Wal, room, records int, dead bool) {
	t.Helper()
	if w.Room() != room || w.Records() != records || w.Dead() != dead {
		t.Fatalf("room %d, records %d, dead %v, not %d, %d, %v", w.Room(), w.Records(), w.Dead(), room, records, dead)
	}
}

// checkOpen: Open tells this, and writes nothing.
func checkOpen(t *testing.T, d *disk.Disk, want told) {
	t.Helper()
	c := d.Clone()
	c.Forget()
	w, snapshot, records, e := wal.Open(c)
	if e != api.OK || !want.same(snapshot, records) {
		t.Fatalf("Open: %d, %q, %q, not %q, %q", e, snapshot, records, want.snapshot, want.records)
	}
	checkNumbers(t, w, roomBy(c.Sectors(), want), len(want.records), false)
	if len(c.Raw()) > 0 {
		t.Fatal("Open wrote ", c.Raw())
	}
}

// step: a call on a live log, its answer, its raw writes, and what is told then.
func (c call) step(t *testing.T, w *wal.Wal, d *disk.Disk) {
	t.Helper()
	l := d.Sectors()
	x := must(t, l)
	writes, want := c.says(l, x)
	d.Forget()
	if e := c.do(w); e != want || !slices.Equal(d.Raw(), writes) {
		t.Fatalf("%v of %d bytes: %d, not %d; wrote %v, not %v", c.snapshot, len(c.text), e, want, d.Raw(), writes)
	}
	if want == api.OK {
		if now := must(t, d.Sectors()); !now.same(c.behind(x).snapshot, c.behind(x).records) {
			t.Fatalf("%v of %d bytes: the disk tells %q, %q", c.snapshot, len(c.text), now.snapshot, now.records)
		}
	}
	check(t, w, d)
}

// blank: a disk of noughts.
func blank(t *testing.T, sectors int) *disk.Disk {
	t.Helper()
	d, e := disk.New(sectors)
	if e != api.OK {
		t.Fatal(e)
	}
	return d
}

// loaded: a disk of these sectors, noughts behind those that are given.
func loaded(t *testing.T, sectors int, l ...string) *disk.Disk {
	t.Helper()
	for len(l) < sectors {
		l = append(l, noughts(""))
	}
	d, e := disk.Load(l)
	if e != api.OK {
		t.Fatal(e)
	}
	return d
}

// open: of a disk on which there is a log.
func open(t *testing.T, d *disk.Disk) *wal.Wal {
	t.Helper()
	w, _, _, e := wal.Open(d)
	if e != api.OK {
		t.Fatal("Open: ", e)
	}
	return w
}

// fresh: an empty log on a disk of halves of h sectors.
func fresh(t *testing.T, h int) (*wal.Wal, *disk.Disk) {
	t.Helper()
	d := blank(t, 2+2*h)
	if e := wal.Format(d); e != api.OK {
		t.Fatal("Format: ", e)
	}
	return open(t, d), d
}

func some(s *rand.Rand, n int) string {
	b := make([]byte, n)
	for i := range b {
		b[i] = byte(s.Uint32())
	}
	return string(b)
}

// someCall: most records fit, and most snapshots are short enough to let records follow.
func someCall(s *rand.Rand, h int) call {
	switch s.IntN(10) {
	case 0:
		return call{true, some(s, s.IntN(128*h+2))}
	case 1:
		return call{true, some(s, s.IntN(1+128*h/4))}
	case 2:
		return call{false, some(s, s.IntN(130*h))}
	}
	return call{false, some(s, s.IntN(1+128*h/3))}
}
