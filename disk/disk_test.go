package disk_test

import (
	"math"
	"math/rand/v2"
	"slices"
	"strings"
	"testing"

	"gaffer/api"
	"gaffer/disk"
)

func TestP4_1NewBounds(t *testing.T) {
	for _, n := range []int{0, -1, -128, math.MinInt, 1027, 1 << 32, math.MaxInt} {
		if d, e := disk.New(n); d != nil || e != api.ErrDiskSector {
			t.Errorf("New(%d): %v, %d", n, d != nil, e)
		}
	}
	for _, n := range []int{1, 2, 3, 322, 1025, 1026} {
		d, e := disk.New(n)
		if d == nil || e != api.OK {
			t.Fatalf("New(%d): %d", n, e)
		}
		check(t, d, &model{base: slices.Repeat([]string{fill("", 0)}, n)})
	}
}

func TestP4_1LoadBounds(t *testing.T) {
	for _, n := range []int{1, 2, 3, 1025, 1026} {
		d, m := loaded(t, n)
		check(t, d, m)
	}
	for _, n := range []int{0, 1027, 2000} {
		if d, e := disk.Load(rows(n)); d != nil || e != api.ErrDiskSector {
			t.Errorf("Load of %d: %v, %d", n, d != nil, e)
		}
	}
	if d, e := disk.Load([]string{}); d != nil || e != api.ErrDiskSector {
		t.Errorf("Load of an empty list: %v, %d", d != nil, e)
	}
}

// A sector has 128 bytes, of whatever runes they may be.
func TestP4_1LoadSizes(t *testing.T) {
	short := []string{"", "a", row(1)[:127], row(1) + "a", row(1) + row(1), strings.Repeat("ä", 128)}
	for _, text := range short {
		for place := range 3 {
			l := rows(3)
			l[place] = text
			if d, e := disk.Load(l); d != nil || e != api.ErrDiskSize {
				t.Errorf("Load, %d bytes at %d: %v, %d", len(text), place, d != nil, e)
			}
		}
		if d, e := disk.Load(slices.Repeat([]string{text}, 1027)); d != nil || e != api.ErrDiskSector {
			t.Errorf("Load of too many of %d bytes: %v, %d", len(text), d != nil, e)
		}
	}
	if d, e := disk.Load([]string{strings.Repeat("ä", 64)}); d == nil || e != api.OK {
		t.Errorf("Load of 64 runes of two bytes: %d", e)
	}
}

// A disk that was just made is not armed: however many writes come, none is cut.
func TestP4_1NotArmed(t *testing.T) {
	made, _ := disk.New(2)
	d, _ := loaded(t, 2)
	for _, d := range []*disk.Disk{made, d} {
		for i := range 300 {
			if e := d.Write(i%2, row(i)); e != api.OK || d.Dead() || len(d.Raw()) != i+1 {
				t.Fatalf("write %d: %d", i, e)
			}
		}
	}
}

func TestP4_1LoadKeepsNoList(t *testing.T) {
	l := rows(4)
	d, e := disk.Load(l[:3])
	if e != api.OK {
		t.Fatal(e)
	}
	clear(l)
	check(t, d, &model{base: rows(3)})
	l = rows(4)
	d, _ = disk.Load(l[:3])
	d.Write(2, row(9))
	if !slices.Equal(l, rows(4)) {
		t.Error("the list is changed")
	}
}

// A number beside the sectors' answers the error and zeros, and changes nothing; of a dead disk it is ErrDead.
func TestP4_2Read(t *testing.T) {
	for size := 1; size <= 4; size++ {
		d, m := loaded(t, size)
		for range 2 {
			want, sectors := api.ErrDiskSector, []int{-1, -128, math.MinInt, size, size + 1, 1026, math.MaxInt}
			if d.Dead() {
				want, sectors = api.ErrDead, append(sectors, 0, size-1)
			}
			for _, s := range sectors {
				if data, e := d.Read(s); data != "" || e != want {
					t.Errorf("Read(%d) of %d: %q, %d, not %d", s, size, data, e, want)
				}
			}
			check(t, d, m)
			call{kind: callArm, a: 1}.do(t, d, m)
			call{kind: callWrite, data: row(5)}.do(t, d, m)
		}
	}
}

func TestP4_3Write(t *testing.T) {
	d, m := loaded(t, 3)
	for i, s := range []int{1, 0, 2, 1, 1, 0} {
		call{kind: callWrite, a: s, data: row(50 + i)}.do(t, d, m)
		check(t, d, m)
	}
	every := make([]byte, 256)
	for i := range every {
		every[i] = byte(i)
	}
	call{kind: callWrite, a: 0, data: string(every[:128])}.do(t, d, m)
	call{kind: callWrite, a: 2, data: string(every[128:])}.do(t, d, m)
	check(t, d, m)
}

// A refused write is no raw write: it changes nothing, is not remembered, and does not count for what is armed. Of two errors the sector's is told, ahead of all ErrDead.
func TestP4_3Refused(t *testing.T) {
	sizes := []string{"", "a", row(1)[:127], row(1) + "a", strings.Repeat("ä", 128)}
	refuse := func(d *disk.Disk, m *model, none, size api.Errno) {
		t.Helper()
		for _, s := range []int{-1, math.MinInt, 3, math.MaxInt} {
			for _, data := range append(sizes, row(1)) {
				if e := d.Write(s, data); e != none {
					t.Errorf("Write(%d, %d bytes): %d, not %d", s, len(data), e, none)
				}
			}
		}
		for _, data := range sizes {
			if e := d.Write(2, data); e != size {
				t.Errorf("Write(2, %d bytes): %d, not %d", len(data), e, size)
			}
		}
		check(t, d, m)
	}
	d, m := loaded(t, 3)
	refuse(d, m, api.ErrDiskSector, api.ErrDiskSize)
	call{kind: callArm, a: 2, b: 7}.do(t, d, m)
	refuse(d, m, api.ErrDiskSector, api.ErrDiskSize)
	call{kind: callWrite, a: 1, data: row(60)}.do(t, d, m)
	refuse(d, m, api.ErrDiskSector, api.ErrDiskSize)
	call{kind: callWrite, a: 1, data: row(61)}.do(t, d, m)
	if !d.Dead() {
		t.Error("not cut")
	}
	refuse(d, m, api.ErrDead, api.ErrDead)
	if e := d.Write(0, row(1)); e != api.ErrDead {
		t.Error(e)
	}
	check(t, d, m)
}

// Each cut: in the n-th write, behind each number of bytes.
func TestP4_3EachCut(t *testing.T) {
	for n := 1; n <= 4; n++ {
		for bytes := 0; bytes <= 128; bytes++ {
			d, m := loaded(t, 2)
			if e := d.Arm(n, bytes); e != api.OK {
				t.Fatalf("Arm(%d, %d): %d", n, bytes, e)
			}
			for i := range n - 1 {
				if e := d.Write(i%2, row(80+i)); e != api.OK {
					t.Fatalf("write %d of %d: %d", i, n, e)
				}
				m.write(i%2, row(80+i))
			}
			check(t, d, m)
			before := d.Sectors()
			if e := d.Write(1, row(99)); e != api.ErrDead || !d.Dead() {
				t.Fatalf("the cut write: %d", e)
			}
			before[1] = row(99)[:bytes] + before[1][bytes:]
			if !slices.Equal(d.Sectors(), before) || !slices.Equal(d.Raw(), m.remembers()) {
				t.Fatalf("cut in %d behind %d: %q", n, bytes, d.Sectors())
			}
		}
	}
}

// A refused Arm leaves what was armed; bytes must be 0 to 128 also where none will be cut.
func TestP4_4Refused(t *testing.T) {
	d, m := loaded(t, 2)
	wrong := [][2]int{{-1, 0}, {-1, 129}, {math.MinInt, 5}, {0, -1}, {0, 129}, {1, -1}, {1, 129}, {3, math.MinInt}, {3, math.MaxInt}}
	refuse := func(want api.Errno) {
		t.Helper()
		for _, x := range wrong {
			if e := d.Arm(x[0], x[1]); e != want {
				t.Errorf("Arm(%d, %d): %d, not %d", x[0], x[1], e, want)
			}
		}
		check(t, d, m)
	}
	refuse(api.ErrArg)
	for range 5 {
		call{kind: callWrite, data: row(3)}.do(t, d, m)
	}
	call{kind: callArm, a: 2, b: 3}.do(t, d, m)
	refuse(api.ErrArg)
	call{kind: callWrite, a: 1, data: row(4)}.do(t, d, m)
	refuse(api.ErrArg)
	call{kind: callWrite, a: 1, data: row(5)}.do(t, d, m)
	if !d.Dead() {
		t.Error("not cut")
	}
	wrong = append(wrong, [2]int{0, 0}, [2]int{1, 128})
	refuse(api.ErrDead)
	call{kind: callRevive}.do(t, d, m)
	for range 5 {
		call{kind: callWrite, data: row(3)}.do(t, d, m)
	}
	check(t, d, m)
}

// A later Arm takes the place of an earlier one, and counts from its own moment on.
func TestP4_4LaterArm(t *testing.T) {
	for first := range 5 {
		for between := range 4 {
			for second := range 5 {
				d, m := loaded(t, 2)
				call{kind: callArm, a: first, b: 10}.do(t, d, m)
				for i := range between {
					call{kind: callWrite, a: i % 2, data: row(20 + i)}.do(t, d, m)
				}
				call{kind: callArm, a: second, b: 20}.do(t, d, m)
				for i := range 6 {
					call{kind: callWrite, a: i % 2, data: row(30 + i)}.do(t, d, m)
					check(t, d, m)
				}
				if want := second > 0 || first > 0 && first <= between; d.Dead() != want {
					t.Errorf("%d, %d, %d: Dead %v", first, between, second, d.Dead())
				}
			}
		}
	}
}

func TestP4_4FarAway(t *testing.T) {
	d, m := loaded(t, 2)
	call{kind: callArm, a: math.MaxInt, b: 128}.do(t, d, m)
	for i := range 50 {
		call{kind: callWrite, a: i % 2, data: row(i)}.do(t, d, m)
	}
	check(t, d, m)
}

// Arm is no write, and says nothing to what is remembered or to what is dead.
func TestP4_4ArmChangesNoSector(t *testing.T) {
	d, m := loaded(t, 2)
	call{kind: callWrite, a: 1, data: row(7)}.do(t, d, m)
	for n := range 3 {
		call{kind: callArm, a: n, b: 128}.do(t, d, m)
		check(t, d, m)
	}
}

// Revive takes away what is armed, also of a disk that lived.
func TestP4_5Revive(t *testing.T) {
	for _, writes := range []int{0, 1, 2, 3} {
		d, m := loaded(t, 2)
		call{kind: callArm, a: 3, b: 64}.do(t, d, m)
		for i := range writes {
			call{kind: callWrite, a: i % 2, data: row(40 + i)}.do(t, d, m)
		}
		if d.Dead() != (writes == 3) {
			t.Fatalf("behind %d: %v", writes, d.Dead())
		}
		for range 2 {
			d.Revive()
			m.dead, m.armed = false, 0
			check(t, d, m)
		}
		for i := range 8 {
			if e := d.Write(1, row(i)); e != api.OK {
				t.Fatalf("write %d behind Revive: %d", i, e)
			}
			m.write(1, row(i))
		}
		check(t, d, m)
		call{kind: callArm, a: 1, b: 2}.do(t, d, m)
		call{kind: callWrite, data: row(70)}.do(t, d, m)
		check(t, d, m)
	}
}

// The cut writes are not remembered, not even those whose bytes all stand; the others are, across cuts.
func TestP4_5RawAcrossCuts(t *testing.T) {
	d, m := loaded(t, 2)
	want := 0
	for _, bytes := range []int{0, 1, 127, 128} {
		d.Revive()
		m.dead, m.armed = false, 0
		call{kind: callArm, a: 3, b: bytes}.do(t, d, m)
		for i := range 5 {
			call{kind: callWrite, a: i % 2, data: row(bytes + i)}.do(t, d, m)
			check(t, d, m)
		}
		if want += 2; len(d.Raw()) != want {
			t.Errorf("%d remembered, not %d", len(d.Raw()), want)
		}
	}
	call{kind: callForget}.do(t, d, m)
	if check(t, d, m); len(d.Raw()) != 0 || !d.Dead() {
		t.Error("Forget of a dead disk")
	}
}

// Forget takes nothing away but what is remembered.
func TestP4_5Forget(t *testing.T) {
	d, m := loaded(t, 2)
	for i := range 4 {
		call{kind: callArm, a: 3, b: 5}.do(t, d, m)
		call{kind: callForget}.do(t, d, m)
		check(t, d, m)
		call{kind: callWrite, a: i % 2, data: row(i)}.do(t, d, m)
		call{kind: callForget}.do(t, d, m)
		check(t, d, m)
		call{kind: callWrite, a: i % 2, data: row(i + 9)}.do(t, d, m)
		check(t, d, m)
	}
	call{kind: callWrite, data: row(90)}.do(t, d, m)
	if check(t, d, m); !d.Dead() {
		t.Error("what was armed is forgotten")
	}
}

// What is answered is the caller's: neither its items nor its spare room are the disk's, or another answer's.
func TestP4_5AnswersAreNew(t *testing.T) {
	d, m := loaded(t, 3)
	for i := range 11 {
		call{kind: callWrite, a: i % 3, data: row(i)}.do(t, d, m)
	}
	raw, l := d.Raw(), d.Sectors()
	raw2, l2 := d.Raw(), d.Sectors()
	clear(raw[:cap(raw)])
	clear(l[:cap(l)])
	check(t, d, m)
	call{kind: callWrite, a: 1, data: row(77)}.do(t, d, m)
	_, _ = append(raw, api.Write{Sector: 9}), append(l, "x")
	check(t, d, m)
	if !slices.Equal(raw2, m.remembers()[:11]) || l2[1] != row(10) || l2[2] != row(8) {
		t.Error("an answer has changed")
	}
}

// All rows of up to four calls on a disk of two sectors.
func TestP4_5ShortRows(t *testing.T) {
	calls := []call{
		{kind: callWrite, a: 0, data: row(11)},
		{kind: callWrite, a: 1, data: row(12)},
		{kind: callWrite, a: 2, data: row(13)},
		{kind: callWrite, a: 1, data: "short"},
		{kind: callArm},
		{kind: callArm, a: 1, b: 0},
		{kind: callArm, a: 1, b: 128},
		{kind: callArm, a: 2, b: 3},
		{kind: callArm, a: -1, b: 3},
		{kind: callRevive},
		{kind: callForget},
	}
	var rest func(d *disk.Disk, m *model, left int)
	rest = func(d *disk.Disk, m *model, left int) {
		check(t, d, m)
		for _, c := range calls {
			if left > 0 {
				d2, m2 := d.Clone(), m.clone()
				c.do(t, d2, m2)
				rest(d2, m2, left-1)
			}
		}
	}
	d, m := loaded(t, 2)
	rest(d, m, 4)
}

func TestP4_5LongRows(t *testing.T) {
	s := rand.New(rand.NewPCG(4, 5))
	for size := 1; size <= 5; size++ {
		for range 10 {
			d, m := loaded(t, size)
			for range 150 {
				anyCall(s, size).do(t, d, m)
				check(t, d, m)
			}
		}
	}
}

// The chapter's examples, but those of Cut.
func TestP4_5Examples(t *testing.T) {
	a, b, o := fill("", 'a'), fill("", 'b'), fill("", 0)
	d, _ := disk.New(3)
	if d.Write(1, a) != api.OK || d.Write(3, a) != api.ErrDiskSector || d.Write(1, "a") != api.ErrDiskSize {
		t.Error("Write")
	}
	if d.Arm(-1, 0) != api.ErrArg || d.Arm(1, 129) != api.ErrArg || d.Arm(2, 3) != api.OK {
		t.Error("Arm")
	}
	if d.Write(1, b) != api.OK || d.Write(0, b) != api.ErrDead || !d.Dead() || d.Write(0, "x") != api.ErrDead || d.Arm(0, 0) != api.ErrDead {
		t.Error("the cut")
	}
	if l := d.Sectors(); !slices.Equal(l, []string{fill("bbb", 0), b, o}) {
		t.Errorf("%q", l)
	}
	if raw := d.Raw(); !slices.Equal(raw, []api.Write{{Sector: 1, Data: a}, {Sector: 1, Data: b}}) {
		t.Errorf("%v", raw)
	}
	d.Revive()
	if data, e := d.Read(0); data != fill("bbb", 0) || e != api.OK {
		t.Errorf("%q, %d", data, e)
	}
	if d.Forget(); len(d.Raw()) != 0 || d.Size() != 3 {
		t.Error("Forget")
	}
}
