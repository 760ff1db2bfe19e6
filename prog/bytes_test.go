package prog_test

import (
	"fmt"
	"strings"
	"testing"

	"gaffer/api"
	"gaffer/prog"
)

const exampleBytes = "\x09\x03\x01\x00\x3f\xf8\x00\x00\x00\x00\x00\x00\x15\x00\x0e\x03"

func TestP5_3Examples(t *testing.T) {
	if b, e := prog.Pack(example()); b != exampleBytes || e != api.OK {
		t.Errorf("%x, %d", b, e)
	}
	if p, e := prog.Unpack(exampleBytes); !same(p, example()) || e != api.OK {
		t.Error(p, e)
	}
	for _, x := range []struct {
		b string
		e api.Errno
	}{
		{exampleBytes[:len(exampleBytes)-1], api.ErrProgForm}, {exampleBytes + "\x00", api.ErrProgForm}, {"", api.ErrProgForm},
		{strings.Repeat("a", 1025), api.ErrProgLong}, {strings.Repeat("a", 1024), api.ErrProgForm},
		{exampleBytes + strings.Repeat("\x00", 1025-len(exampleBytes)), api.ErrProgLong}, {exampleBytes + strings.Repeat("\x00", 1024-len(exampleBytes)), api.ErrProgForm},
		{strings.Repeat("\x80", 1<<22), api.ErrProgLong},
	} {
		if p, e := prog.Unpack(x.b); e != x.e || !same(p, api.Program{}) {
			t.Errorf("%d bytes: %v, %d, not %d", len(x.b), p, e, x.e)
		}
	}
}

// The whole table: each op's number, its fields in their order.
func TestP5_3EachOpsBytes(t *testing.T) {
	for _, o := range allOps() {
		x := api.Ins{Op: o.number}
		want := fmt.Sprintf("\x80\x08\x01%c", o.number)
		for _, name := range o.names {
			switch name {
			case "A":
				x.A, want = 5, want+"\x05"
			case "B":
				x.B, want = 6, want+"\x06"
			case "C":
				x.C, want = 7, want+"\x07"
			case "N":
				x.N, want = 1, want+"\x01"
			case "K":
				x.K, want = 0x0102030405060708, want+"\x01\x02\x03\x04\x05\x06\x07\x08"
			}
		}
		p := api.Program{Fuel: 1024, Code: []api.Ins{x}}
		if b, e := prog.Pack(p); b != want || e != api.OK {
			t.Errorf("%s: %x, %d, not %x", o.word, b, e, want)
		}
		if q, e := prog.Unpack(want); !same(p, q) || e != api.OK {
			t.Errorf("%s: %v, %d", o.word, q, e)
		}
	}
}

func TestP5_3NeverTooLong(t *testing.T) {
	b, e := prog.Pack(longest())
	if len(b) != 2+1+64*10 || len(b) > api.MaxProgram || e != api.OK {
		t.Error(len(b), e)
	}
	if p, e := prog.Unpack(b); !same(p, longest()) || e != api.OK {
		t.Error(e)
	}
}

// What can be laid as bytes and may not be: each of Check's errors is ErrProgForm here.
func TestP5_3WhatMayNotBe(t *testing.T) {
	nan := "\x7f\xf8\x00\x00\x00\x00\x00"
	for _, b := range []string{
		"\x00\x01\x18", "\x81\x08\x01\x18", "\x09\x00", "\x09\x41" + strings.Repeat("\x18", 65), "\x09\x01\x00", "\x09\x01\x19", "\x09\x01\x40", "\x09\x01\x41",
		"\x09\x01\x15\x08", "\x09\x01\x0e\x02", "\x09\x01\x0e\x41", "\x09\x01\x01\x00" + nan + "\x00", "\x09\x01\x01\x00" + nan + "\x02",
		"\x89\x00\x01\x18", "\x09\x81\x00\x18", "\x09\x01\x98\x00", "\x09\x01\x15\x80\x00", "\x09\x01\x0e\x81\x00", // not in the one form
		"\x09\x01\x80\x80\x80\x80\x80\x80\x80\x80\x80\x01", "\x09\x01\x15\xff\xff\xff\xff\xff\xff\xff\xff\xff\x01", "\xff\xff\xff\xff\xff\xff\xff\xff\xff\x01\x01\x18",
		"\x09\xff\xff\xff\xff\xff\xff\xff\xff\xff\x01\x18", "\x09\x80\x80\x80\x80\x80\x80\x80\x80\x80\x02\x18", "\x09\x02\x18", "\x09\x01", "\x09", "\x89", "\x09\x01\x01\x00",
	} {
		if p, e := prog.Unpack(b); e != api.ErrProgForm || !same(p, api.Program{}) {
			t.Errorf("%x: %v, %d", b, p, e)
		}
	}
	for _, b := range []string{"\x09\x01\x18", "\x80\x08\x01\x18", "\x09\x40" + strings.Repeat("\x18", 64), "\x09\x01\x15\x07", "\x09\x01\x0e\x01", "\x09\x40" + strings.Repeat("\x0e\x40", 64), "\x09\x01\x01\x00" + nan + "\x01"} {
		if p, e := prog.Unpack(b); e != api.OK || p.Fuel == 0 {
			t.Errorf("%x: %v, %d", b, p, e)
		}
	}
}

func TestP5_3OneByteAway(t *testing.T) {
	rnd := source(53)
	programs := []api.Program{example()}
	for range 30 {
		programs = append(programs, anyProgram(rnd))
	}
	for _, p := range programs {
		b, _ := prog.Pack(p)
		if len(b) > 60 {
			continue
		}
		for i := range b {
			checkUnpack(t, b[:i]+b[i+1:])
			for c := range 256 {
				checkUnpack(t, b[:i]+string([]byte{byte(c)})+b[i+1:])
				checkUnpack(t, b[:i]+string([]byte{byte(c)})+b[i:])
			}
		}
	}
}

func TestP5_3ShortBytes(t *testing.T) {
	few := []byte{0, 1, 2, 9, 14, 15, 18, 21, 24, 25, 64, 65, 128, 129, 255}
	var all func(b string, left int)
	all = func(b string, left int) {
		checkUnpack(t, b)
		for i := 0; left > 0 && i < len(few); i++ {
			all(b+string([]byte{few[i]}), left-1)
		}
	}
	all("", 4)
}

func TestP5_3AnyBytes(t *testing.T) {
	rnd := source(56)
	for range 20000 {
		b := []byte{9, byte(rnd.IntN(5))}
		for range rnd.IntN(14) {
			b = append(b, byte(rnd.IntN(28)))
		}
		checkUnpack(t, string(b))
	}
}

// What follows: Unpack of Pack is the program, no beginning of its bytes is one, nor are they with more behind them.
func TestP5_4BytesThereAndBack(t *testing.T) {
	rnd := source(57)
	for range 300 {
		p := anyProgram(rnd)
		b, e := prog.Pack(p)
		if e != api.OK {
			t.Fatal(p, e)
		}
		if q, e := prog.Unpack(b); !same(p, q) || e != api.OK {
			t.Fatalf("%x: %v, %d", b, q, e)
		}
		for i := range b {
			if q, e := prog.Unpack(b[:i]); e != api.ErrProgForm || !same(q, api.Program{}) {
				t.Fatalf("%x: %v, %d", b[:i], q, e)
			}
		}
		for c := range 256 {
			if q, e := prog.Unpack(b + string([]byte{byte(c)})); e != api.ErrProgForm || !same(q, api.Program{}) {
				t.Fatalf("%x and %x: %v, %d", b, c, q, e)
			}
		}
	}
}

// Whatever Unpack takes, Pack tells.
func TestP5_4OneForm(t *testing.T) {
	rnd := source(58)
	taken := 0
	for range 100000 {
		b := []byte{byte(rnd.IntN(3)), byte(rnd.IntN(3))}
		for range rnd.IntN(6) {
			b = append(b, byte(rnd.IntN(26)))
		}
		p, e := prog.Unpack(string(b))
		if e != api.OK {
			continue
		}
		taken++
		if c, e := prog.Pack(p); c != string(b) || e != api.OK {
			t.Fatalf("%x: %x, %d", b, c, e)
		}
	}
	if taken < 100 {
		t.Error(taken)
	}
}
