package record_test

import (
	"math/rand/v2"
	"slices"
	"strings"
	"testing"
	"unsafe"

	"gaffer/api"
	"gaffer/record"
)

func TestP8_4ThereAndBack(t *testing.T) {
	for _, l := range someRows(source(841), 3000) {
		b := encode(t, l)
		m, e := record.Decode(b)
		if !sameRows(m, l) || e != api.OK {
			t.Fatalf("%+v: %x: %+v, %d", l, b, m, e)
		}
		if encode(t, m) != b || int(b[0]) != len(l) {
			t.Fatalf("%+v: %x", l, b)
		}
	}
}

// Whatever Decode takes, Check takes change by change, and Encode tells it byte by byte.
func TestP8_4WhatDecodeTakes(t *testing.T) {
	rnd := source(842)
	few := []byte{0, 1, 2, 3, 4, 5, 6, 7, 8, 9, 32, 33, 127, 128, 129, 255}
	taken := 0
	for range 300000 {
		b := []byte{byte(1 + rnd.IntN(3))}
		for range 2 + rnd.IntN(8) {
			b = append(b, few[rnd.IntN(len(few))])
		}
		l, e := record.Decode(string(b))
		if e != api.OK {
			continue
		}
		taken++
		for _, c := range l {
			if f := record.Check(c); f != api.OK {
				t.Fatalf("%x: %+v, %d", b, c, f)
			}
		}
		if encode(t, l) != string(b) {
			t.Fatalf("%x: %+v", b, l)
		}
	}
	if taken < 2000 {
		t.Error(taken)
	}
}

// Unlike rows have unlike bytes, and those of none are a beginning of another one's.
func TestP8_4NoBeginning(t *testing.T) {
	rnd := source(843)
	l := someRows(rnd, 100)
	for _, row := range someRows(rnd, 10) {
		l = append(l, nearlySame(rnd, row)...)
	}
	bytes := make([]string, len(l))
	for i, row := range l {
		bytes[i] = encode(t, row)
	}
	for i := range l {
		for j := range l {
			if i != j && strings.HasPrefix(bytes[i], bytes[j]) && !sameRows(l[i], l[j]) {
				t.Fatalf("%+v: %x; %+v: %x", l[i], bytes[i], l[j], bytes[j])
			}
		}
	}
}

// nearlySame: rows that may be and differ in one field, in their order, in their length, or in where one text ends and the next begins.
func nearlySame(rnd *rand.Rand, row []api.Change) [][]api.Change {
	l := [][]api.Change{row}
	take := func(m []api.Change) {
		if _, e := record.Encode(m); e == api.OK {
			l = append(l, m)
		}
	}
	for _, name := range strings.Fields(allNames) {
		values := edges(name)
		for range 5 {
			m := slices.Clone(row)
			set(&m[rnd.IntN(len(m))], name, values[rnd.IntN(len(values))])
			take(m)
		}
	}
	for i := range row {
		m := slices.Clone(row)
		m[0], m[i] = m[i], m[0]
		take(m)
		take(row[:i])
		take(append(slices.Clone(row), row[i]))
		take(slices.Delete(slices.Clone(row), i, i+1))
		if n := len(row[i].Texts); n > 1 {
			m = slices.Clone(row)
			m[i].Texts = append([]string{row[i].Texts[0] + row[i].Texts[1]}, row[i].Texts[2:]...)
			take(m)
		}
	}
	return l
}

// A record of which one byte was changed is none, or another one, whose bytes are just those.
func TestP8_4OneByteChanged(t *testing.T) {
	others := 0
	for _, l := range someRows(source(844), 8) {
		b := encode(t, l)
		for i := range min(len(b), 60) {
			for c := range 256 {
				if byte(c) == b[i] {
					continue
				}
				turned := b[:i] + string([]byte{byte(c)}) + b[i+1:]
				m, e := record.Decode(turned)
				if e == api.OK {
					others++
				}
				if e != api.OK && (e != api.ErrRecordForm || len(m) != 0) || e == api.OK && (sameRows(l, m) || encode(t, m) != turned) {
					t.Fatalf("%x: %x: %+v, %d", b, turned, m, e)
				}
			}
		}
	}
	if others < 1000 {
		t.Error(others)
	}
}

// Of several errors the one that the promise names first is told: too many changes, the first that is refused, too many bytes.
func TestR2WhichFirst(t *testing.T) {
	bad := api.Change{Kind: 9, N: -1, Texts: make([]string, 99)}
	if e := record.Check(bad); e != api.ErrRecordKind {
		t.Error(e)
	}
	big := api.Change{Kind: api.ChSubmit, Job: 1, Program: strings.Repeat("p", 1024)}
	worse := big
	worse.Job = 9
	for i, x := range []struct {
		l []api.Change
		e api.Errno
	}{
		{slices.Repeat([]api.Change{worse}, 17), api.ErrRecordMany}, {slices.Repeat([]api.Change{worse}, 16), api.ErrRecordField},
		{[]api.Change{big, big, bad}, api.ErrRecordKind}, {[]api.Change{big, worse, bad}, api.ErrRecordField}, {[]api.Change{big, big, big}, api.ErrRecordMany},
	} {
		if b, e := record.Encode(x.l); b != "" || e != x.e {
			t.Errorf("%d: %x, %d, not %d", i, b, e, x.e)
		}
	}
}

// A call that was refused leaves nothing behind for the next one.
func TestR2NothingIsKept(t *testing.T) {
	for _, l := range someRows(source(845), 100) {
		b := encode(t, l)
		record.Decode(b[:len(b)-1])
		record.Decode("\x02\x02\x01\x03abc\x04\x01\x02\x01a")
		record.Encode([]api.Change{l[0], {Kind: api.ChExpire}})
		record.Check(api.Change{Kind: api.ChLog, Badge: -1, Texts: []string{"a"}})
		if m, e := record.Decode(b); !sameRows(m, l) || e != api.OK || encode(t, l) != b {
			t.Fatalf("%+v: %+v, %d", l, m, e)
		}
	}
}

// deepClone: nothing of it is shared.
func deepClone(l []api.Change) []api.Change {
	m := slices.Clone(l)
	for i := range m {
		m[i].Texts = slices.Clone(m[i].Texts)
	}
	return m
}

// What is handed in is not changed, nor the room behind it.
func TestR4ArgumentsStay(t *testing.T) {
	behind := api.Change{Kind: 99, Texts: []string{"behind"}}
	for _, l := range someRows(source(846), 200) {
		for i := range l {
			if n := len(l[i].Texts); n > 0 {
				l[i].Texts = append(l[i].Texts, "behind")[:n]
			}
		}
		wrong := append(slices.Clone(l), behind)
		before := deepClone(wrong)
		record.Encode(wrong[:len(l)])
		record.Encode(wrong)
		for _, c := range wrong {
			record.Check(c)
		}
		if !sameRows(wrong, before) {
			t.Fatalf("%+v, not %+v", wrong, before)
		}
		for i := range l {
			if n := len(l[i].Texts); n > 0 && wrong[i].Texts[:n+1][n] != "behind" {
				t.Fatalf("%+v", wrong[i])
			}
		}
	}
}

// What was answered is the asker's own: writing into it, spare room too, is seen nowhere else.
func TestR4AnswersAreNewMemory(t *testing.T) {
	for _, l := range someRows(source(847), 200) {
		b := encode(t, l)
		m, _ := record.Decode(b)
		n, _ := record.Decode(b)
		for i := range m {
			texts := m[i].Texts[:cap(m[i].Texts)]
			for j := range texts {
				texts[j] = "written"
			}
			if !sameRows(m[i+1:], l[i+1:]) || !sameRows(n, l) {
				t.Fatalf("%+v: %+v, %+v", l, m, n)
			}
			m[i] = api.Change{Kind: 99}
		}
		_ = append(m[:0:cap(m)], slices.Repeat([]api.Change{{Kind: 98}}, cap(m))...)
		if again, e := record.Decode(b); !sameRows(again, l) || !sameRows(n, l) || e != api.OK {
			t.Fatalf("%+v: %+v, %+v", l, again, n)
		}
	}
}

// within: does a text lie in the memory of another?
func within(part, whole string) bool {
	p, w := uintptr(unsafe.Pointer(unsafe.StringData(part))), uintptr(unsafe.Pointer(unsafe.StringData(whole)))
	return w <= p && p < w+uintptr(len(whole))
}

func textsOf(l []api.Change) []string {
	var m []string
	for _, c := range l {
		m = append(append(m, c.Program), c.Texts...)
	}
	return slices.DeleteFunc(m, func(s string) bool { return s == "" })
}

func TestR4TextsAreNewMemory(t *testing.T) {
	for _, l := range someRows(source(848), 200) {
		b := encode(t, l)
		m, _ := record.Decode(b)
		for _, s := range append(textsOf(l), textsOf(m)...) {
			if within(s, b) || within(b, s) {
				t.Fatalf("%+v", l)
			}
		}
	}
}
