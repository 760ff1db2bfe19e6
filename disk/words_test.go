package disk_test

import (
	"math/rand/v2"
	"slices"
	"strings"
	"testing"

	"gaffer/api"
	"gaffer/disk"
)

// stood is a raw write, and how many of its bytes were written.
type stood struct {
	api.Write
	bytes int
	cut   bool
}

// model is a disk by the chapter's words: what stood on it at first, all its raw writes, and how many there were when it was armed or forgot.
type model struct {
	base      []string
	ever      []stood
	dead      bool
	armed     int // the n of Arm; 0: it is not armed
	bytes     int
	armedAt   int
	forgotten int
}

func (m *model) clone() *model {
	c := *m
	c.base, c.ever = slices.Clone(m.base), slices.Clone(m.ever)
	return &c
}

// sectors: each byte is of the last write that reached it.
func (m *model) sectors() []string {
	l := slices.Clone(m.base)
	for s := range l {
		b := []byte(l[s])
		for j := range b {
			for i := len(m.ever) - 1; i >= 0; i-- {
				if w := m.ever[i]; w.Sector == s && j < w.bytes {
					b[j] = w.Data[j]
					break
				}
			}
		}
		l[s] = string(b)
	}
	return l
}

func (m *model) remembers() []api.Write {
	var l []api.Write
	for _, w := range m.ever[m.forgotten:] {
		if !w.cut {
			l = append(l, w.Write)
		}
	}
	return l
}

func (m *model) write(sector int, data string) api.Errno {
	if m.dead {
		return api.ErrDead
	}
	if sector < 0 || sector >= len(m.base) {
		return api.ErrDiskSector
	}
	if len(data) != 128 {
		return api.ErrDiskSize
	}
	w := stood{Write: api.Write{Sector: sector, Data: data}, bytes: 128}
	if m.armed > 0 && len(m.ever)+1-m.armedAt == m.armed {
		w.bytes, w.cut = m.bytes, true
		m.dead = true
	}
	m.ever = append(m.ever, w)
	if w.cut {
		return api.ErrDead
	}
	return api.OK
}

func (m *model) arm(n, bytes int) api.Errno {
	if m.dead {
		return api.ErrDead
	}
	if n < 0 || bytes < 0 || bytes > 128 {
		return api.ErrArg
	}
	m.armed, m.bytes, m.armedAt = n, bytes, len(m.ever)
	return api.OK
}

// call is one of those that change a disk: of a and b each kind takes what it needs.
type call struct {
	kind int
	a, b int
	data string
}

const (
	callWrite = iota
	callArm
	callRevive
	callForget
	callKinds
)

// do: the call on the disk and on the model; their answers must be the same.
func (c call) do(t *testing.T, d *disk.Disk, m *model) {
	t.Helper()
	switch c.kind {
	case callWrite:
		if e, must := d.Write(c.a, c.data), m.write(c.a, c.data); e != must {
			t.Fatalf("Write(%d, %d bytes): %d, not %d", c.a, len(c.data), e, must)
		}
	case callArm:
		if e, must := d.Arm(c.a, c.b), m.arm(c.a, c.b); e != must {
			t.Fatalf("Arm(%d, %d): %d, not %d", c.a, c.b, e, must)
		}
	case callRevive:
		d.Revive()
		m.dead, m.armed = false, 0
	case callForget:
		d.Forget()
		m.forgotten = len(m.ever)
	}
}

// check: whatever can be asked of the disk without changing it.
func check(t *testing.T, d *disk.Disk, m *model) {
	t.Helper()
	l := m.sectors()
	if d.Size() != len(l) || d.Dead() != m.dead {
		t.Fatalf("Size %d, Dead %v, not %d, %v", d.Size(), d.Dead(), len(l), m.dead)
	}
	if told := d.Sectors(); !slices.Equal(told, l) {
		t.Fatalf("Sectors: %q, not %q", told, l)
	}
	if told, must := d.Raw(), m.remembers(); !slices.Equal(told, must) {
		t.Fatalf("Raw: %v, not %v", told, must)
	}
	for s := -2; s < len(l)+2; s++ {
		data, fault := "", api.ErrDiskSector
		if 0 <= s && s < len(l) {
			data, fault = l[s], api.OK
		}
		if m.dead {
			data, fault = "", api.ErrDead
		}
		if told, e := d.Read(s); told != data || e != fault {
			t.Fatalf("Read(%d): %q, %d, not %q, %d", s, told, e, data, fault)
		}
	}
}

// fill: a sector that begins with some bytes, all others c.
func fill(first string, c byte) string {
	return first + strings.Repeat(string([]byte{c}), 128-len(first))
}

// row: a sector of which each byte differs from its neighbours, and from those of the other rows in the same place.
func row(from int) string {
	b := make([]byte, 128)
	for j := range b {
		b[j] = byte(from*37 + j)
	}
	return string(b)
}

// rows: so many sectors.
func rows(many int) []string {
	l := make([]string, many)
	for i := range l {
		l[i] = row(i)
	}
	return l
}

// loaded: a disk of so many sectors, and its model.
func loaded(t *testing.T, many int) (*disk.Disk, *model) {
	t.Helper()
	d, e := disk.Load(rows(many))
	if e != api.OK {
		t.Fatalf("Load of %d: %d", many, e)
	}
	return d, &model{base: rows(many)}
}

// anyCall: mostly what may be, sometimes what may not.
func anyCall(s *rand.Rand, size int) call {
	data := row(s.IntN(256))
	if s.IntN(12) == 0 {
		data = data[:s.IntN(128)]
	}
	switch s.IntN(12) {
	case 0, 1:
		return call{kind: callArm, a: s.IntN(6) - 1, b: s.IntN(131) - 1}
	case 2:
		return call{kind: callRevive}
	case 3:
		return call{kind: callForget}
	}
	return call{kind: callWrite, a: s.IntN(size+2) - 1, data: data}
}
