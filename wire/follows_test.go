package wire_test

import (
	"math/rand/v2"
	"strings"
	"testing"
	"unsafe"

	"gaffer/api"
	"gaffer/interp"
	"gaffer/num"
	"gaffer/wire"
)

func TestP7_3ThereAndBack(t *testing.T) {
	for _, m := range someMsgs(source(731), 500) {
		b := encode(t, m)
		if n, e := wire.Decode(b); n != m || e != api.OK {
			t.Fatalf("%+v: %x: %+v, %d", m, b, n, e)
		}
		if int(b[0]) != m.Kind {
			t.Fatalf("%+v: %x", m, b)
		}
	}
}

// Unlike messages have unlike bytes, and none of them are a beginning of another one's.
func TestP7_3NoBeginning(t *testing.T) {
	rnd := source(732)
	l := someMsgs(rnd, 30)
	for _, m := range someMsgs(rnd, 3) {
		l = append(l, nearlySame(rnd, m)...)
	}
	bytes := make([]string, len(l))
	for i, m := range l {
		bytes[i] = encode(t, m)
	}
	for i, m := range l {
		for j, n := range l {
			if m != n && strings.HasPrefix(bytes[i], bytes[j]) {
				t.Fatalf("%+v: %x; %+v: %x", m, bytes[i], n, bytes[j])
			}
		}
	}
}

// nearlySame: those that may be and differ in one field, or in their kind.
func nearlySame(rnd *rand.Rand, m api.Msg) []api.Msg {
	l := []api.Msg{m}
	take := func(n api.Msg) {
		if wire.Check(n) == api.OK {
			l = append(l, n)
		}
	}
	for _, name := range strings.Fields(allNames) {
		values := edges(name)
		for range 10 {
			n := m
			set(&n, name, values[rnd.IntN(len(values))])
			take(n)
		}
	}
	for kind := range 18 {
		n := m
		n.Kind = kind
		take(n)
	}
	return l
}

// A message of which one byte was changed is none, or another one, whose bytes are just those.
func TestP7_3OneByteChanged(t *testing.T) {
	others := 0
	for _, m := range someMsgs(source(733), 4) {
		b := encode(t, m)
		for i := range min(len(b), 60) {
			for c := range 256 {
				if byte(c) == b[i] {
					continue
				}
				turned := b[:i] + string([]byte{byte(c)}) + b[i+1:]
				n, e := wire.Decode(turned)
				if e == api.OK {
					others++
				}
				if e != api.OK && (e != api.ErrWireForm || n != api.Msg{}) || e == api.OK && (n == m || encode(t, n) != turned) {
					t.Fatalf("%x: %x: %+v, %d", b, turned, n, e)
				}
			}
		}
	}
	if others < 1000 {
		t.Error(others)
	}
}

// Whatever Decode takes, Check takes, and Encode tells it byte by byte.
func TestP7_3WhatDecodeTakes(t *testing.T) {
	rnd := source(734)
	few := []byte{0, 1, 2, 3, 8, 9, 16, 17, 31, 32, 33, 127, 128, 129, 255}
	taken := 0
	for range 300000 {
		b := []byte{byte(1 + rnd.IntN(16))}
		for range rnd.IntN(7) {
			b = append(b, few[rnd.IntN(len(few))])
		}
		m, e := wire.Decode(string(b))
		if e != api.OK {
			continue
		}
		taken++
		if f := wire.Check(m); f != api.OK || encode(t, m) != string(b) {
			t.Fatalf("%x: %+v, %d", b, m, f)
		}
	}
	if taken < 10000 {
		t.Error(taken)
	}
}

// machines: programs that tell as much as can be, of numbers with the longest texts.
func machines() []api.Program {
	var l []api.Program
	for _, k := range []uint64{0, 1 << 63, oneNaN, 0x7ff0000000000000, 0xfff0000000000000, 1<<63 | 0x000fffffffffffff, 1<<63 | 0x001fffffffffffff, 0xffefffffffffffff, num.Of(1)} {
		set := api.Ins{Op: api.OpSet, K: k}
		for _, op := range []int{api.OpEmit, api.OpWrite} {
			for _, many := range []int{0, 1, 16, 17, 32, 33} {
				p := api.Program{Fuel: api.MaxFuel, Code: []api.Ins{set}}
				for range many {
					p.Code = append(p.Code, api.Ins{Op: op})
				}
				l = append(l, p)
			}
		}
		for _, op := range []int{api.OpRet, api.OpFail, api.OpHalt, api.OpGoto} {
			l = append(l, api.Program{Fuel: 9, Code: []api.Ins{set, {Op: op}}})
		}
		l = append(l, api.Program{Fuel: 99, Code: []api.Ins{{Op: api.OpPush}, {Op: api.OpJump}}}, api.Program{Fuel: 3, Code: []api.Ins{set, {Op: api.OpJump}}})
	}
	return l
}

// checkBorne: a message may be, and arrives.
func checkBorne(t *testing.T, m api.Msg) {
	t.Helper()
	if n, e := wire.Decode(encode(t, m)); n != m || e != api.OK {
		t.Fatalf("%+v: %+v, %d", m, n, e)
	}
}

// Whatever a machine tells may be borne.
func TestP7_3Machines(t *testing.T) {
	codes, most := map[int]int{}, 0
	for _, p := range machines() {
		o, e := interp.Whole(p)
		if e != api.OK {
			t.Fatal(p, e)
		}
		for i, s := range o.Chunks {
			checkBorne(t, api.Msg{Kind: api.MsgChunk, Badge: 1, Index: i, Text: s})
			most = max(most, len(s))
		}
		for i, s := range o.Pieces {
			checkBorne(t, api.Msg{Kind: api.MsgPut, Job: 1, Badge: 1, Index: i + 1, Text: s})
		}
		checkBorne(t, api.Msg{Kind: api.MsgDone, Session: 1, Number: 1, Badge: 1, Count: len(o.Chunks), Result: o.Result})
		checkBorne(t, api.Msg{Kind: api.MsgAck, Badge: 1, Count: len(o.Chunks)})
		checkBorne(t, api.Msg{Kind: api.MsgTook, Job: 1, Badge: 1, Count: len(o.Pieces) + 1})
		codes[o.Result.Code]++
	}
	for code := range api.TrapFail + 1 {
		if codes[code] == 0 {
			t.Errorf("no machine ends by %d", code)
		}
	}
	if most < 22 {
		t.Errorf("the longest text has %d bytes", most)
	}
}

// Of a kind that is none and a field that may not be, the kind is told; of bytes that are too many and no message, that they are too many.
func TestR2WhichFirst(t *testing.T) {
	m := api.Msg{Kind: 17, Session: -1, Text: strings.Repeat("a", 33)}
	if e := wire.Check(m); e != api.ErrWireKind {
		t.Error(e)
	}
	if b, e := wire.Encode(m); b != "" || e != api.ErrWireKind {
		t.Error(b, e)
	}
	for _, b := range []string{strings.Repeat("\x00", 2049), "\x01" + strings.Repeat("\x00", 2048)} {
		if n, e := wire.Decode(b); n != (api.Msg{}) || e != api.ErrWireLong {
			t.Error(n, e)
		}
	}
}

// A call that was refused leaves nothing behind for the next one.
func TestR2NothingIsKept(t *testing.T) {
	rnd := source(735)
	for _, m := range someMsgs(rnd, 20) {
		b := encode(t, m)
		wire.Decode(b[:len(b)-1])
		wire.Decode("\x09\x01\x01\x01\x01\x03abc")
		wire.Check(api.Msg{Kind: api.MsgPoll, Session: -1})
		if n, e := wire.Decode(b); n != m || e != api.OK || encode(t, m) != b {
			t.Fatalf("%+v: %+v, %d", m, n, e)
		}
	}
}

// within: does a text lie in the memory of another?
func within(part, whole string) bool {
	p, w := uintptr(unsafe.Pointer(unsafe.StringData(part))), uintptr(unsafe.Pointer(unsafe.StringData(whole)))
	return w <= p && p < w+uintptr(len(whole))
}

func TestR4AnswersAreNewMemory(t *testing.T) {
	rnd := source(736)
	for _, m := range someMsgs(rnd, 50) {
		b := encode(t, m)
		n, _ := wire.Decode(b)
		for _, s := range []string{n.Text, n.Program} {
			if s != "" && within(s, b) {
				t.Fatalf("%+v: Decode", m)
			}
		}
		for _, s := range []string{m.Text, m.Program} {
			if s != "" && (within(b, s) || within(s, b)) {
				t.Fatalf("%+v: Encode", m)
			}
		}
	}
}
