package disk_test

import (
	"math"
	"math/rand/v2"
	"slices"
	"strings"
	"testing"

	"gaffer/api"
	"gaffer/disk"
)

func TestP4_6Examples(t *testing.T) {
	a, b, o := fill("", 'a'), fill("", 'b'), fill("", 0)
	l, e := disk.Cut([]string{o, o}, []api.Write{{Sector: 1, Data: a}, {Sector: 0, Data: b}}, 1, 2)
	if !slices.Equal(l, []string{fill("bb", 0), a}) || e != api.OK {
		t.Errorf("%q, %d", l, e)
	}
	if l, e := disk.Cut([]string{o}, []api.Write{{Sector: 1, Data: a}}, 0, 0); len(l) != 0 || e != api.ErrDiskSector {
		t.Errorf("%q, %d", l, e)
	}
	if l, e := disk.Cut([]string{o}, nil, 0, 1); len(l) != 0 || e != api.ErrDiskCut {
		t.Errorf("%q, %d", l, e)
	}
}

// Each fault alone, and together with all that the promise names behind it.
func TestP4_6Errors(t *testing.T) {
	good := []api.Write{{Sector: 1, Data: row(8)}, {Sector: 0, Data: row(9)}}
	with := func(w api.Write) []api.Write { return append(slices.Clone(good), w) }
	size := func(text string) []string { return []string{row(0), text} }
	long := strings.Repeat("ä", 128)
	for _, x := range []struct {
		name     string
		base     []string
		raw      []api.Write
		n, bytes int
		want     api.Errno
	}{
		{"no sector", nil, nil, 0, 0, api.ErrDiskSector},
		{"no sector, wrong size, no cut", nil, []api.Write{{Data: "x"}}, 5, 200, api.ErrDiskSector},
		{"too many", rows(1027), good, 0, 0, api.ErrDiskSector},
		{"too many, wrong size", make([]string, 1027), nil, 0, 0, api.ErrDiskSector},
		{"a write behind the last", rows(2), with(api.Write{Sector: 2, Data: row(1)}), 0, 0, api.ErrDiskSector},
		{"a write of -1", rows(2), with(api.Write{Sector: -1, Data: row(1)}), 0, 0, api.ErrDiskSector},
		{"a write far off", rows(2), with(api.Write{Sector: math.MaxInt, Data: row(1)}), 0, 0, api.ErrDiskSector},
		{"a write below", rows(2), with(api.Write{Sector: math.MinInt, Data: row(1)}), 0, 0, api.ErrDiskSector},
		{"its sector ahead of its size", rows(2), with(api.Write{Sector: 2}), -1, 0, api.ErrDiskSector},
		{"its sector ahead of the base's size", size("x"), with(api.Write{Sector: 2, Data: row(1)}), 9, 9, api.ErrDiskSector},
		{"its sector ahead of an earlier size", rows(2), []api.Write{{Data: "x"}, {Sector: 2, Data: row(1)}}, 0, 0, api.ErrDiskSector},
		{"a short base", size(row(1)[:127]), good, 0, 0, api.ErrDiskSize},
		{"a long base", size(long), good, 0, 0, api.ErrDiskSize},
		{"an empty base, no cut", size(""), good, 3, 129, api.ErrDiskSize},
		{"a short first one", []string{"x", row(1)}, good, 0, 0, api.ErrDiskSize},
		{"a short write", rows(2), with(api.Write{Data: row(1)[:127]}), 0, 0, api.ErrDiskSize},
		{"a long write", rows(2), with(api.Write{Data: long}), 0, 0, api.ErrDiskSize},
		{"an empty write, no cut", rows(2), with(api.Write{}), -1, -1, api.ErrDiskSize},
		{"a short first write", rows(2), []api.Write{{Data: "x"}, good[0]}, 0, 0, api.ErrDiskSize},
		{"n below 0", rows(2), good, -1, 0, api.ErrDiskCut},
		{"n far below 0", rows(2), good, math.MinInt, 0, api.ErrDiskCut},
		{"n above the writes", rows(2), good, 3, 0, api.ErrDiskCut},
		{"n far above", rows(2), good, math.MaxInt, 0, api.ErrDiskCut},
		{"n above none", rows(2), nil, 1, 0, api.ErrDiskCut},
		{"bytes below 0", rows(2), good, 1, -1, api.ErrDiskCut},
		{"bytes above a sector", rows(2), good, 1, 129, api.ErrDiskCut},
		{"bytes far above", rows(2), good, 0, math.MaxInt, api.ErrDiskCut},
		{"bytes far below", rows(2), good, 0, math.MinInt, api.ErrDiskCut},
		{"bytes of no write", rows(2), good, 2, 1, api.ErrDiskCut},
		{"all bytes of no write", rows(2), good, 2, 128, api.ErrDiskCut},
	} {
		if l, e := disk.Cut(x.base, x.raw, x.n, x.bytes); len(l) != 0 || e != x.want {
			t.Errorf("%s: %d texts, %d, not %d", x.name, len(l), e, x.want)
		}
	}
}

func TestP4_6GreatestBase(t *testing.T) {
	raw := []api.Write{{Sector: 1025, Data: row(3)}, {Sector: 0, Data: row(4)}}
	l, e := disk.Cut(rows(1026), raw, 2, 0)
	want := rows(1026)
	want[1025], want[0] = row(3), row(4)
	if e != api.OK || !slices.Equal(l, want) {
		t.Error(e)
	}
	if l, e := disk.Cut(rows(1), nil, 0, 0); e != api.OK || !slices.Equal(l, rows(1)) {
		t.Errorf("%q, %d", l, e)
	}
}

// Each n and each number of bytes, of writes that lie over each other.
func TestP4_6EachCut(t *testing.T) {
	base := rows(3)
	raw := []api.Write{{Sector: 1, Data: row(20)}, {Sector: 1, Data: row(21)}, {Sector: 0, Data: row(22)}, {Sector: 1, Data: row(23)}}
	for n := range len(raw) + 1 {
		for bytes := range 129 {
			if n == len(raw) && bytes > 0 {
				continue
			}
			m := &model{base: base}
			for i, w := range raw[:min(n+1, len(raw))] {
				stand := stood{Write: w, bytes: 128}
				if i == n {
					stand.bytes = bytes
				}
				m.ever = append(m.ever, stand)
			}
			if l, e := disk.Cut(base, raw, n, bytes); e != api.OK || !slices.Equal(l, m.sectors()) {
				t.Fatalf("Cut(%d, %d): %q, %d", n, bytes, l, e)
			}
		}
	}
}

// What is handed in stays as it is, with the room behind it; what is answered is new.
func TestP4_6Memory(t *testing.T) {
	raw := []api.Write{{Sector: 1, Data: row(20)}, {Sector: 0, Data: row(21)}, {Sector: 0, Data: row(22)}}
	base, writes := rows(4), slices.Clone(raw)
	for n := range 3 {
		l, e := disk.Cut(base[:3], writes[:2], n, 0)
		if e != api.OK || !slices.Equal(base, rows(4)) || !slices.Equal(writes, raw) {
			t.Fatalf("Cut(%d): %d, or something is changed", n, e)
		}
		clear(l[:cap(l)])
		if !slices.Equal(base, rows(4)) {
			t.Fatal("the answer is the base")
		}
	}
	l, _ := disk.Cut(base[:3], writes[:2], 2, 0)
	clear(base)
	clear(writes)
	if !slices.Equal(l, []string{row(21), row(20), row(2)}) {
		t.Errorf("%q", l)
	}
}

// A disk that is written to shows at each moment what Cut plays of its raw writes, and an armed one what Cut plays of those of the disk that was not armed.
func TestP4_7Follows(t *testing.T) {
	s := rand.New(rand.NewPCG(4, 7))
	for range 40 {
		size := 1 + s.IntN(4)
		base := rows(size)
		whole, m := loaded(t, size)
		for range 8 {
			call{kind: callWrite, a: s.IntN(size), data: row(s.IntN(256))}.do(t, whole, m)
			k := len(whole.Raw())
			if l, e := disk.Cut(base, whole.Raw(), k, 0); e != api.OK || !slices.Equal(l, whole.Sectors()) {
				t.Fatalf("behind %d writes: %q, %d, not %q", k, l, e, whole.Sectors())
			}
		}
		for k := range len(whole.Raw()) {
			for _, bytes := range []int{0, 1, s.IntN(129), 127, 128} {
				followCut(t, base, whole.Raw(), k, bytes)
			}
		}
	}
}

func followCut(t *testing.T, base []string, raw []api.Write, k, bytes int) {
	t.Helper()
	d, _ := disk.Load(base)
	if e := d.Arm(k+1, bytes); e != api.OK {
		t.Fatal(e)
	}
	for i, w := range raw {
		want := api.OK
		if i >= k {
			want = api.ErrDead
		}
		if e := d.Write(w.Sector, w.Data); e != want {
			t.Fatalf("write %d of an armed disk (%d): %d, not %d", i, k, e, want)
		}
	}
	l, e := disk.Cut(base, raw, k, bytes)
	if e != api.OK || !slices.Equal(l, d.Sectors()) || !slices.Equal(d.Raw(), raw[:k]) {
		t.Fatalf("armed by %d, %d: %q, %d, not %q", k+1, bytes, l, e, d.Sectors())
	}
}

// A clone is armed as its object, remembers what it remembers, and is as dead; of each of several only its own calls are seen.
func TestP4_8ClonesGoTheirWay(t *testing.T) {
	s := rand.New(rand.NewPCG(4, 8))
	for range 60 {
		size := 1 + s.IntN(4)
		d, m := loaded(t, size)
		for range s.IntN(12) {
			anyCall(s, size).do(t, d, m)
		}
		ds, ms := []*disk.Disk{d, d.Clone()}, []*model{m, m.clone()}
		ds, ms = append(ds, ds[1].Clone()), append(ms, m.clone())
		for range 30 {
			i := s.IntN(len(ds))
			anyCall(s, size).do(t, ds[i], ms[i])
			for j := range ds {
				check(t, ds[j], ms[j])
			}
		}
	}
}

func TestP4_8CloneOfArmed(t *testing.T) {
	d, m := loaded(t, 2)
	call{kind: callArm, a: 3, b: 4}.do(t, d, m)
	call{kind: callWrite, data: row(30)}.do(t, d, m)
	c, mc := d.Clone(), m.clone()
	for i := range 2 {
		if e, want := c.Write(1, row(31+i)), mc.write(1, row(31+i)); e != want {
			t.Errorf("write %d of the clone: %d", i, e)
		}
	}
	if check(t, c, mc); !c.Dead() || d.Dead() {
		t.Error("the clone is cut, its object is not")
	}
	check(t, d, m)
	of := c.Clone()
	if check(t, of, mc); !of.Dead() {
		t.Error("a dead disk's clone lives")
	}
	of.Revive()
	if !c.Dead() || of.Dead() {
		t.Error("Revive is seen at the other one")
	}
	d.Revive()
	if !c.Dead() {
		t.Error("Revive is seen at the clone")
	}
}

// Two that write behind a common beginning: neither one's memory is the other's room.
func TestP4_8RawGoesItsWay(t *testing.T) {
	for before := range 20 {
		d, m := loaded(t, 2)
		for i := range before {
			call{kind: callWrite, a: i % 2, data: row(i)}.do(t, d, m)
		}
		c, mc := d.Clone(), m.clone()
		for i := range 4 {
			call{kind: callWrite, a: 0, data: row(100 + i)}.do(t, d, m)
			call{kind: callWrite, a: 1, data: row(200 + i)}.do(t, c, mc)
		}
		check(t, d, m)
		check(t, c, mc)
		call{kind: callForget}.do(t, d, m)
		check(t, d, m)
		check(t, c, mc)
	}
}
