package wal_test

import (
	"math/rand/v2"
	"slices"
	"strings"
	"testing"

	"gaffer/api"
	"gaffer/disk"
	"gaffer/wal"
)

// refused: Open answers this error, and nothing beside it.
func refused(t *testing.T, d *disk.Disk, want api.Errno) {
	t.Helper()
	if w, s, l, e := wal.Open(d); e != want || w != nil || s != "" || len(l) > 0 {
		t.Errorf("Open: %v, %q, %q, %d, not %d", w, s, l, e, want)
	}
}

func formats(t *testing.T, d *disk.Disk, want api.Errno) {
	t.Helper()
	if e := wal.Format(d); e != want {
		t.Errorf("Format of %d sectors: %d, not %d", d.Size(), e, want)
	}
}

func kill(t *testing.T, d *disk.Disk) {
	t.Helper()
	d.Arm(1, 0)
	if d.Write(0, noughts("")) != api.ErrDead {
		t.Fatal("it lives")
	}
}

func TestP9_1Examples(t *testing.T) {
	d := blank(t, 6)
	refused(t, d, api.ErrWalForm)
	formats(t, blank(t, 5), api.ErrWalSize)
	formats(t, d, api.OK)
	formats(t, d, api.ErrWalThere)
	want := []string{noughts(""), headBytes(1, 0, 0, 0), noughts(""), noughts(""), noughts(""), noughts("")}
	if !slices.Equal(d.Sectors(), want) || len(d.Raw()) != 1 {
		t.Errorf("%q", d.Sectors())
	}
}

func TestP9_1P9_2Sizes(t *testing.T) {
	for size := 1; size <= 1026; size++ {
		d := blank(t, size)
		if size < 4 || size%2 == 1 {
			formats(t, d, api.ErrWalSize)
			refused(t, d, api.ErrWalSize)
		} else {
			refused(t, d, api.ErrWalForm)
			formats(t, d, api.OK)
			if w, _, _, e := wal.Open(d); e != api.OK || w.Room() != min(2048, 64*(size-2)-1-min(1, (size-2)/3)) {
				t.Errorf("Open of %d sectors: %d", size, e)
			}
		}
		kill(t, d)
		formats(t, d, api.ErrDead)
		refused(t, d, api.ErrDead)
	}
}

func TestP9_1There(t *testing.T) {
	torn := headBytes(7, 0, 0, 0)[:64] + headBytes(5, 0, 0, 0)[64:]
	for _, x := range []struct {
		zero, one string
		want      api.Errno
	}{
		{headBytes(2, 0, 0, 0), noughts(""), api.ErrWalThere},
		{noughts(""), headBytes(3, 1, 4, 0), api.ErrWalThere},
		{headBytes(2, 0, 0, 0), torn, api.ErrWalThere},
		{headBytes(2, 0, 0, 3), headBytes(3, 1, 0, 0), api.ErrWalThere},
		{noughts(""), torn[:120] + "12345678", api.OK},
		{headBytes(1, 0, 0, 0), headBytes(2, 0, 0, 0), api.OK},
		{headBytes(2, 0, 0, 4), headBytes(1, 1, 0, 2), api.OK},
	} {
		d := loaded(t, 6, x.zero, x.one, noughts("\x02ab"), noughts(""), noughts("\x03ab"), noughts("z"))
		before := d.Sectors()
		formats(t, d, x.want)
		if x.want == api.OK {
			before[1] = headBytes(1, 0, 0, 0)
		}
		if !slices.Equal(d.Sectors(), before) {
			t.Errorf("%q, %q: Format wrote %v", x.zero, x.one, d.Raw())
		}
	}
}

func TestP9_1Cuts(t *testing.T) {
	for bytes := range 129 {
		d := blank(t, 4)
		d.Arm(1, bytes)
		formats(t, d, api.ErrDead)
		if l := d.Sectors(); l[1] != headBytes(1, 0, 0, 0)[:bytes]+noughts("")[bytes:] || l[0] != noughts("") {
			t.Fatalf("cut behind %d bytes: %q", bytes, l)
		}
		d.Revive()
		if bytes == 128 {
			formats(t, d, api.ErrWalThere)
		} else {
			refused(t, d, api.ErrWalForm)
			formats(t, d, api.OK)
		}
		checkOpen(t, d, told{number: 1})
	}
}

// checkWords: Open tells what the words say of the disk's sectors.
func checkWords(t *testing.T, d *disk.Disk) bool {
	t.Helper()
	x, right := says(d.Sectors())
	if right {
		checkOpen(t, d, x)
	} else {
		refused(t, d, api.ErrWalForm)
	}
	return right
}

// heads: on a disk of halves of 256 bytes; the half 0 has the frames `ab`, `c`, the half 1 a snapshot `snap` and the frame of 200 bytes.
func heads(t *testing.T, zero, one string) *disk.Disk {
	t.Helper()
	long := "snap" + frame(strings.Repeat("r", 200))
	return loaded(t, 6, zero, one, noughts("\x02ab\x01c"), noughts(""), long[:128], noughts(long[128:]))
}

func TestP9_2Heads(t *testing.T) {
	none := noughts("")
	for i, x := range []struct {
		zero, one string
		want      []string // nil: no head is right; else the snapshot, and the records
	}{
		{none, headBytes(1, 0, 0, 0), []string{""}},
		{headBytes(2, 0, 0, 3), headBytes(1, 0, 0, 0), []string{"", "ab"}},
		{headBytes(2, 0, 0, 3), headBytes(3, 0, 0, 5), []string{"", "ab", "c"}},
		{headBytes(4, 0, 0, 3), headBytes(3, 0, 0, 5), []string{"", "ab"}},
		{headBytes(4, 1, 4, 202), headBytes(3, 0, 0, 5), []string{"snap", strings.Repeat("r", 200)}},
		{headBytes(4, 1, 4, 0), headBytes(5, 1, 4, 202), []string{"snap", strings.Repeat("r", 200)}},
		{headBytes(4, 1, 0, 0), headBytes(5, 0, 1, 0), []string{"\x02"}},
		{headBytes(300, 0, 3, 2), headBytes(299, 0, 0, 0), []string{"\x02ab", "c"}},
		// The greater one is not right: frames that are not whole, or none.
		{headBytes(2, 0, 0, 3), headBytes(3, 0, 0, 4), []string{"", "ab"}},
		{headBytes(2, 0, 0, 3), headBytes(3, 0, 0, 2), []string{"", "ab"}},
		{headBytes(2, 0, 0, 3), headBytes(3, 0, 0, 6), []string{"", "ab"}},
		{headBytes(2, 0, 0, 3), headBytes(3, 0, 1, 4), []string{"", "ab"}},
		{headBytes(2, 0, 0, 3), headBytes(3, 1, 4, 203), []string{"", "ab"}},
		{headBytes(2, 0, 0, 3), headBytes(3, 2, 0, 0), []string{"", "ab"}},
		{headBytes(2, 0, 0, 3), headBytes(3, 255, 0, 0), []string{"", "ab"}},
		// Snapshot and log are more than a half, or just one.
		{headBytes(2, 0, 257, 0), headBytes(1, 0, 256, 0), []string{noughts("\x02ab\x01c") + noughts("")}},
		{headBytes(2, 0, 256, 1), none, nil},
		{headBytes(2, 0, 1<<32-1, 1<<32-1), none, nil},
		{headBytes(2, 0, 0, 1<<32-1), none, nil},
		{headBytes(2, 0, 0, 257), none, nil},
		// Numbers, and on which sector they stand.
		{headBytes(1, 0, 0, 0), headBytes(2, 0, 0, 0), nil},
		{headBytes(0, 0, 0, 0), headBytes(0, 0, 0, 0), nil},
		{headBytes(0, 0, 0, 3), none, nil},
		{headBytes(mostNumber, 0, 0, 3), headBytes(mostNumber-1, 0, 0, 5), []string{"", "ab"}},
		{none, headBytes(mostNumber-1, 0, 0, 5), []string{"", "ab", "c"}},
		{headBytes(2, 0, 0, 3), headBytes(mostNumber+1, 0, 0, 5), []string{"", "ab"}},
		{headBytes(mostNumber+2, 0, 0, 3), headBytes(1, 0, 0, 5), []string{"", "ab", "c"}},
		{headBytes(1<<64-2, 0, 0, 3), headBytes(1<<64-1, 0, 0, 3), nil},
		{headBytes(1<<63+2, 0, 0, 3), none, nil},
	} {
		d := heads(t, x.zero, x.one)
		if x.want == nil {
			refused(t, d, api.ErrWalForm)
		} else if _, s, l, e := wal.Open(d); e != api.OK || s != x.want[0] || !slices.Equal(l, x.want[1:]) {
			t.Errorf("case %d: %q, %q, %d", i, s, l, e)
		}
		checkWords(t, d)
	}
}

// A log does not go on in the other half, though frames stand there.
func TestP9_2HalvesAreApart(t *testing.T) {
	frames := strings.Repeat("\x01x", 64)
	for _, x := range []struct {
		snapshot, log uint32
		right         bool
	}{
		{0, 126, true}, {0, 128, true}, {0, 130, false}, {0, 256, false}, {2, 126, true}, {2, 128, false},
		{126, 2, true}, {126, 4, false}, {128, 0, true}, {128, 2, false}, {128, 128, false}, {130, 0, false},
	} {
		for half := range uint32(2) {
			d := loaded(t, 4, headBytes(2, half, x.snapshot, x.log), noughts(""), frames, frames)
			if checkWords(t, d) != x.right {
				t.Errorf("half %d, %d and %d bytes", half, x.snapshot, x.log)
			}
		}
	}
}

// Every byte of a head counts: one that is changed makes it wrong, but for sizes and halves that are right, too.
func TestP9_2EveryByteOfAHead(t *testing.T) {
	rights := 0
	for _, old := range []string{headBytes(2, 0, 0, 3), headBytes(0x0102030406, 1, 4, 202)} {
		for i := range 128 {
			for _, change := range []byte{1, 2, 3, 4, 5, 6, 128, 255} {
				b := []byte(old)
				b[i] ^= change
				d := heads(t, string(b), noughts(""))
				if checkWords(t, d) {
					rights++
				}
				checkWords(t, heads(t, string(b), headBytes(1, 0, 3, 2)))
			}
		}
	}
	if rights < 2 || rights > 20 {
		t.Error(rights, " are right")
	}
}

// A head that was torn between two that are right, at each byte, is none but at its ends.
func TestP9_2TornHeads(t *testing.T) {
	for _, number := range []uint64{2, 4, 254, 256, 65534, mostNumber - 2} {
		old, young := headBytes(number, 0, 0, 3), headBytes(number+2, 0, 0, 5)
		for k := range 129 {
			torn := young[:k] + old[k:]
			if right := checkWords(t, heads(t, torn, noughts(""))); right != (torn == old || torn == young) {
				t.Errorf("%d: torn at %d: %v", number, k, right)
			}
		}
	}
}

// What is a frame: its length in its one form, 1 to 2048 bytes.
func TestP9_2Frames(t *testing.T) {
	x := strings.Repeat("x", 3000)
	for i, c := range []struct {
		row  string
		want []int // the records' lengths; nil: no frames
	}{
		{"", []int{}}, {"\x01x", []int{1}}, {"\x02xx\x01x\x03xxx", []int{2, 1, 3}},
		{"\x00", nil}, {"\x01x\x00", nil}, {"\x01", nil}, {"\x80", nil}, {"\x02x", nil},
		{"\x81\x00x", nil}, {"\x82\x80\x00xx", nil}, {"\x01x\x81", nil},
		{"\x7f" + x[:127], []int{127}}, {"\x80\x01" + x[:128], []int{128}}, {"\xff\x00" + x[:127], nil},
		{"\x80\x10" + x[:2048], []int{2048}}, {"\x81\x10" + x[:2049], nil}, {"\x80\x10" + x[:2047], nil},
		{"\x01x\x80\x10" + x[:2048] + "\x01x", []int{1, 2048, 1}},
		{"\xff\xff\xff\xff\xff\xff\xff\xff\xff\x01" + x, nil}, {"\xff\xff\xff\xff\xff\xff\xff\xff\xff\xff" + x, nil},
		{strings.Repeat("\x01x", 2000), slices.Repeat([]int{1}, 2000)},
	} {
		for _, snapshot := range []string{"", "s", x[:127], x[:128], x[:300]} {
			bytes := snapshot + c.row + strings.Repeat("\x01x", 128)
			l := []string{headBytes(2, 1, uint32(len(snapshot)), uint32(len(c.row))), noughts("")}
			for range 40 {
				l = append(l, noughts(""))
			}
			for len(l) < 82 {
				l = append(l, noughts(bytes[:min(128, len(bytes))]))
				bytes = bytes[min(128, len(bytes)):]
			}
			d := loaded(t, 82, l...)
			if right := checkWords(t, d); right != (c.want != nil) {
				t.Fatalf("row %d behind %d bytes: %v", i, len(snapshot), right)
			}
			if c.want == nil {
				continue
			}
			_, s, records, _ := wal.Open(d)
			lengths := []int{}
			for _, r := range records {
				lengths = append(lengths, len(r))
			}
			if s != snapshot || !slices.Equal(lengths, c.want) {
				t.Fatalf("row %d behind %d bytes: %q, %v", i, len(snapshot), s, lengths)
			}
		}
	}
}

func TestP9_2LongestSnapshot(t *testing.T) {
	s := rand.New(rand.NewPCG(9, 2))
	for _, h := range []int{132, 133, 160, 512} {
		text := some(s, 128*h)
		l := []string{noughts(""), noughts("")}
		for i := range h {
			l = append(l, text[128*i:128*i+128])
		}
		for n, right := range map[int]bool{16999: h > 132, 17000: h > 132, 17001: false, 128 * h: h == 132} {
			l[1] = headBytes(3, 0, uint32(n), 0)
			if checkWords(t, loaded(t, 2+2*h, l...)) != right {
				t.Errorf("%d sectors, a snapshot of %d bytes", h, n)
			}
		}
	}
}

// Nothing is written, and what is armed stays so.
func TestP9_2NothingIsWritten(t *testing.T) {
	w, d := fresh(t, 2)
	w.Append("a")
	d.Forget()
	before := d.Sectors()
	d.Arm(1, 5)
	open(t, d)
	if d.Dead() || len(d.Raw()) > 0 || !slices.Equal(d.Sectors(), before) {
		t.Error("Open wrote")
	}
	if d.Write(2, noughts("")) != api.ErrDead {
		t.Error("it was armed")
	}
}

// P9.8: disks of all kinds, most of them with heads that are nearly right.
func TestP9_8AnyDisk(t *testing.T) {
	s := rand.New(rand.NewPCG(9, 8))
	rights := 0
	const many = 6000
	for range many {
		h := 1 + s.IntN(4)
		l := make([]string, 2+2*h)
		for i := range l {
			l[i] = someSector(s)
		}
		for i := range 2 {
			number := []uint64{uint64(i + 2*s.IntN(4)), uint64(i) + 2*s.Uint64N(mostNumber/2+4), s.Uint64()}[s.IntN(3)]
			l[i] = headBytes(number, uint32(s.IntN(9)/4), uint32(s.IntN(3)), uint32(s.IntN(1+s.IntN(128*h))))
			if s.IntN(10) == 0 {
				b := []byte(l[i])
				b[s.IntN(128)] = byte(s.Uint32())
				l[i] = string(b)
			}
		}
		if checkWords(t, loaded(t, len(l), l...)) {
			rights++
		}
	}
	if rights < many/10 || rights > many*9/10 {
		t.Error(rights, " of them have logs")
	}
}

// someSector: short frames, or any bytes.
func someSector(s *rand.Rand) string {
	if s.IntN(8) == 0 {
		return some(s, 128)
	}
	var b strings.Builder
	for b.Len() < 128 {
		b.WriteString(frame(some(s, 1+s.IntN(16)/15)))
	}
	return b.String()[:128]
}
