package record_test

import (
	"encoding/hex"
	"slices"
	"strings"
	"testing"

	"gaffer/api"
	"gaffer/pack"
	"gaffer/record"
)

// bytesOf: written in base sixteen.
func bytesOf(t *testing.T, s string) string {
	t.Helper()
	b, err := hex.DecodeString(strings.ReplaceAll(s, " ", ""))
	if err != nil {
		t.Fatal(err)
	}
	return string(b)
}

// checkNone: bytes that are no record.
func checkNone(t *testing.T, l ...string) {
	t.Helper()
	for _, s := range l {
		if row, e := record.Decode(bytesOf(t, s)); len(row) != 0 || e != api.ErrRecordForm {
			t.Errorf("%s: %+v, %d", s, row, e)
		}
	}
}

func TestP8_2Examples(t *testing.T) {
	for s, l := range map[string][]api.Change{
		"01 01 AC 02":                         {{Kind: api.ChReserve, N: 300}},
		"02 03 01 02 00 01 05 02":             {{Kind: api.ChGrant, Job: 1, Badge: 2, Slot: 0, Life: 1}, {Kind: api.ChExpire, Badge: 2}},
		"01 04 07 02 01 61 00":                {{Kind: api.ChLog, Badge: 7, Texts: []string{"a", ""}}},
		"01 06 01 00 00 00 00 00 00 00 00 01": {{Kind: api.ChSettle, Badge: 1, Result: api.Result{Bits: 1}}},
	} {
		b := bytesOf(t, s)
		if c, e := record.Encode(l); c != b || e != api.OK {
			t.Errorf("%+v: %x, %d", l, c, e)
		}
		if m, e := record.Decode(b); !sameRows(m, l) || e != api.OK {
			t.Errorf("%s: %+v, %d", s, m, e)
		}
	}
	for _, l := range [][]api.Change{nil, {}, make([]api.Change, 17), slices.Repeat([]api.Change{{Kind: api.ChExpire, Badge: 1}}, 17)} {
		if b, e := record.Encode(l); b != "" || e != api.ErrRecordMany {
			t.Errorf("%d: %x, %d", len(l), b, e)
		}
	}
	checkNone(t, "", "00", "01 05 02 00", "01 05 82 00")
}

// The whole table by hand: each kind's number, its fields in their order.
func TestP8_2EachKindsBytes(t *testing.T) {
	whole := api.Change{N: 11, Job: 3, Badge: 14, Slot: 5, Life: 16, Result: api.Result{Bits: 0x0102030405060708}, Program: "ppp", Texts: []string{"tt", "", "uuu"}}
	var row []api.Change
	bytes := ""
	for _, x := range []struct {
		kind  int
		bytes string
	}{
		{api.ChReserve, "01 0b"}, {api.ChSubmit, "02 03 03 70 70 70"}, {api.ChGrant, "03 03 0e 05 10"},
		{api.ChLog, "04 0e 03 02 74 74 00 03 75 75 75"}, {api.ChExpire, "05 0e"}, {api.ChSettle, "06 0e 00 01 02 03 04 05 06 07 08"},
	} {
		k, _ := kindOf(x.kind)
		c := api.Change{Kind: x.kind}
		for _, name := range k.names {
			set(&c, name, get(whole, name))
		}
		row, bytes = append(row, c), bytes+bytesOf(t, x.bytes)
		checkBoth(t, []api.Change{c}, "\x01"+bytesOf(t, x.bytes))
		checkBoth(t, row, string([]byte{byte(len(row))})+bytes)
	}
}

func checkBoth(t *testing.T, l []api.Change, s string) {
	t.Helper()
	if b, e := record.Encode(l); b != s || e != api.OK {
		t.Errorf("%+v: %x, %d", l, b, e)
	}
	if m, e := record.Decode(s); !sameRows(m, l) || e != api.OK {
		t.Errorf("%x: %+v, %d", s, m, e)
	}
}

// How many changes there may be, and which error is told of several.
func TestP8_2Many(t *testing.T) {
	rnd := source(83)
	for many := range 40 {
		l := make([]api.Change, many)
		for i := range l {
			l[i] = anyChange(rnd, 20)
		}
		checkRow(t, l)
		small := slices.Repeat([]api.Change{{Kind: api.ChExpire, Badge: 1}}, many)
		if may := checkRow(t, small); may != (1 <= many && many <= 16) {
			t.Errorf("%d: %v", many, may)
		}
		for i := range l {
			wrong := slices.Clone(small)
			wrong[i].Badge = 0
			checkRow(t, wrong)
			wrong[i].Kind = 9
			checkRow(t, wrong)
		}
	}
}

// Of changes that may not be the first one's error is told, also where the bytes would be too many.
func TestP8_2FirstRefused(t *testing.T) {
	good := api.Change{Kind: api.ChSubmit, Job: 1, Program: strings.Repeat("p", 1024)}
	kind, field := api.Change{Kind: 7}, api.Change{Kind: api.ChExpire}
	for i, x := range []struct {
		l []api.Change
		e api.Errno
	}{
		{[]api.Change{kind, field}, api.ErrRecordKind}, {[]api.Change{field, kind}, api.ErrRecordField}, {[]api.Change{good, kind, field}, api.ErrRecordKind},
		{[]api.Change{good, good, field}, api.ErrRecordField}, {[]api.Change{good, good, good, kind}, api.ErrRecordKind}, {[]api.Change{good, good}, api.ErrRecordMany},
		{slices.Repeat([]api.Change{kind}, 17), api.ErrRecordMany}, {slices.Repeat([]api.Change{kind}, 16), api.ErrRecordKind}, {slices.Repeat([]api.Change{good}, 16), api.ErrRecordMany},
	} {
		if b, e := record.Encode(x.l); b != "" || e != x.e {
			t.Errorf("%d: %x, %d, not %d", i, b, e, x.e)
		}
		checkRow(t, x.l)
	}
}

// A record of 2048 bytes may be, one of 2049 not; neither is written nor read.
func TestP8_2Long(t *testing.T) {
	taken := 0
	for _, size := range []int{1000, 1008, 1009, 1010, 1011, 1012, 1013, 1014, 1015, 1016, 1017, 1018, 1019, 1020, 1024} {
		l := []api.Change{{Kind: api.ChSubmit, Job: 8, Program: strings.Repeat("p", 1024)}, {Kind: api.ChSubmit, Job: 1, Program: strings.Repeat("\x80", size)}}
		b := modelBytes(l)
		if want := 1 + 4 + 1024 + 4 + size; len(b) != want {
			t.Fatal(len(b), want)
		}
		if may := checkRow(t, l); may != (len(b) <= 2048) || checkBytes(t, b) != may {
			t.Errorf("%d: %v", len(b), may)
		} else if may {
			taken = max(taken, len(b))
		}
	}
	if taken != 2048 {
		t.Error(taken)
	}
}

// What a step of the coordinator may put into one record has room in it.
func TestP8_2Room(t *testing.T) {
	top := api.MaxNumber
	full := api.Change{Kind: api.ChLog, Badge: top, Texts: slices.Repeat([]string{strings.Repeat("a", 32)}, 8)}
	expire := api.Change{Kind: api.ChExpire, Badge: top}
	for _, l := range [][]api.Change{
		{{Kind: api.ChSubmit, Job: 8, Program: strings.Repeat("p", 1024)}}, slices.Repeat([]api.Change{expire}, 8),
		{{Kind: api.ChReserve, N: top}, {Kind: api.ChGrant, Job: 8, Badge: top, Slot: 7, Life: top}}, {full}, slices.Repeat([]api.Change{full}, 7),
	} {
		if !checkRow(t, l) || !checkBytes(t, encode(t, l)) {
			t.Errorf("%+v", l)
		}
	}
	if checkRow(t, slices.Repeat([]api.Change{full}, 8)) {
		t.Error("eight full logs")
	}
}

// What can be laid as bytes and may not be.
func TestP8_3WhatMayNotBe(t *testing.T) {
	const top, over = "80 80 80 80 80 20", "81 80 80 80 80 20"
	zeros := strings.Repeat("00 ", 7)
	a32, a33 := "20 "+strings.Repeat("61 ", 32), "21 "+strings.Repeat("61 ", 33)
	checkNone(t,
		"01", "01 00", "01 07 01", "01 00 01", "01 81 01 01", "00 05 01", "02 05 01", "80 01 05 01", "10 05 01", // counts, kinds
		"11 "+strings.Repeat("05 01 ", 17), "7f "+strings.Repeat("05 01 ", 127),
		"01 01 00", "01 01 "+over, "01 01 ff ff ff ff ff ff ff ff ff 01", "01 05 00", "01 05 "+over, // numbers
		"01 02 00 01 70", "01 02 09 01 70", "01 02 01 00", "01 02 01 81 08 "+strings.Repeat("70 ", 1025), // submissions
		"01 03 00 01 00 01", "01 03 09 01 00 01", "01 03 01 00 00 01", "01 03 01 "+over+" 00 01", "01 03 01 01 08 01", "01 03 01 01 00 00", "01 03 01 01 00 "+over, // grants
		"01 04 00 01 00", "01 04 01 00", "01 04 01 09 "+strings.Repeat("00 ", 9), "01 04 01 01 "+a33, "01 04 01 02 00 "+a33, "01 04 01 02 00", // logs
		"01 06 00 00 00 "+zeros, "01 06 01 08 00 "+zeros, "01 06 01 01 "+zeros+" 01", "01 06 01 07 80 "+zeros, "01 06 01 00 "+zeros, // results
	)
	for _, s := range []string{
		"01 05 01", "10 " + strings.Repeat("05 01 ", 16), "01 01 " + top, "01 05 " + top, "01 02 08 01 70", "01 02 01 80 08 " + strings.Repeat("70 ", 1024),
		"01 03 08 " + top + " 07 " + top, "01 03 01 01 00 01", "01 04 01 08 " + strings.Repeat("00 ", 8), "01 04 01 01 " + a32, "01 04 01 02 00 " + a32,
		"01 06 01 07 00 " + zeros, "01 06 01 00 7f f8 00 00 00 00 00 00", "01 06 01 00 ff ff ff ff ff ff ff ff",
	} {
		if !checkBytes(t, bytesOf(t, s)) {
			t.Error(s)
		}
	}
}

// The forms of changes whose fields may not be: what Check refuses, Decode does, wherever in the row it stands.
func TestP8_3BytesOfWhatMayNotBe(t *testing.T) {
	rnd := source(84)
	refused := 0
	for _, k := range allKinds() {
		for _, name := range k.names {
			for _, v := range edges(name) {
				c := anyOf(rnd, k, 40)
				set(&c, name, v)
				l := []api.Change{c, {Kind: api.ChExpire, Badge: 1}, {Kind: api.ChReserve, N: 1}}
				i := rnd.IntN(3)
				l[0], l[i] = l[i], l[0]
				if !checkBytes(t, modelBytes(l)) {
					refused++
				}
			}
		}
	}
	if refused < 300 {
		t.Error(refused)
	}
}

// Numbers with noughts ahead, as their forms could be longer, are none.
func TestP8_3LongerForms(t *testing.T) {
	checkNone(t, "81 00 05 02", "01 85 00 02", "01 05 82 00", "01 03 81 00 01 00 01", "01 03 01 01 80 00 01", "01 04 01 81 00 00", "01 04 01 01 80 00", "01 04 01 01 81 00 61", "01 06 01 80 00 00 00 00 00 00 00 00 00", "01 02 01 81 00 61")
	for _, l := range someRows(source(85), 30) {
		b := encode(t, l)
		for i := range min(len(b), 60) {
			checkBytes(t, b[:i]+string([]byte{b[i] | 128, 0})+b[i+1:])
		}
	}
}

func TestP8_3CutAndMore(t *testing.T) {
	for _, l := range someRows(source(86), 40) {
		b := encode(t, l)
		for i := range b {
			if i < 80 || i > len(b)-20 || i%13 == 0 {
				if checkBytes(t, b[:i]) {
					t.Fatalf("%x, cut at %d", b, i)
				}
			}
		}
		for _, more := range []string{"\x00", "\x01", "\x05\x01", "a", "\xff", b, b[1:]} {
			if checkBytes(t, b+more) {
				t.Fatalf("%x and %x", b, more)
			}
		}
		// The count alone says one change more, or one fewer.
		for _, n := range []byte{b[0] - 1, b[0] + 1} {
			if checkBytes(t, string([]byte{n})+b[1:]) {
				t.Fatalf("%x, with the count %d", b, n)
			}
		}
	}
}

func TestP8_3LongBytes(t *testing.T) {
	for _, begin := range []string{"", "\x01\x05\x01", "\x10\x02\x01\x80\x08", "\x01\x04\x01\x08", "\x00", "\x11", "\x80", "\xff"} {
		for _, size := range []int{2047, 2048, 2049, 2050, 4096, 1 << 22} {
			for _, fill := range []string{"\x00", "a", "\x80", "\xff"} {
				checkBytes(t, begin+strings.Repeat(fill, size-len(begin)))
			}
		}
	}
}

// All rows of up to two bytes, many of three, and those of four that begin as one change does and end in few ways.
func TestP8_3ShortBytes(t *testing.T) {
	taken := 0
	take := func(l ...byte) {
		if checkBytes(t, string(l)) {
			taken++
		}
	}
	for a := range 256 {
		take(byte(a))
		for b := range 256 {
			take(byte(a), byte(b))
			for c := range 256 {
				if a <= 17 && b <= 8 {
					take(byte(a), byte(b), byte(c))
				}
				if a != 1 || b > 7 {
					continue
				}
				for _, d := range []byte{0, 1, 2, 8, 32, 126, 127, 128, 129, 255} {
					take(byte(a), byte(b), byte(c), d)
				}
			}
		}
	}
	// A reserve and an expiry, of one byte's number each, and of two bytes' number, which end in six ways.
	if want := 2*127 + 2*128*6; taken != want {
		t.Errorf("%d, not %d", taken, want)
	}
}

// Bytes that are nearly a record's.
func TestP8_3AnyBytes(t *testing.T) {
	rnd := source(87)
	taken := 0
	for range 20000 {
		l := make([]api.Change, 1+rnd.IntN(4))
		for i := range l {
			l[i] = anyChange(rnd, 20)
		}
		b := []byte(modelBytes(l))
		for range rnd.IntN(4) {
			at := rnd.IntN(len(b))
			switch rnd.IntN(4) {
			case 0:
				b[at] = byte(rnd.IntN(256))
			case 1:
				b[at] ^= 1 << rnd.IntN(8)
			case 2:
				b = append(b[:at:at], append([]byte(pack.Num(rnd.Uint64()>>rnd.IntN(64))), b[at:]...)...)
			case 3:
				b = append(b[:at:at], b[at+1:]...)
			}
			if len(b) == 0 {
				break
			}
		}
		if checkBytes(t, string(b)) {
			taken++
		}
	}
	if taken < 5000 || taken > 18000 {
		t.Error(taken)
	}
}
