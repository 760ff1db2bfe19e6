package wire_test

import (
	"encoding/hex"
	"strings"
	"testing"

	"gaffer/api"
	"gaffer/pack"
	"gaffer/wire"
)

// bytesOf: written in base sixteen.
func bytesOf(t *testing.T, s string) string {
	t.Helper()
	b, err := hex.DecodeString(strings.ReplaceAll(s, " ", ""))
	if err != nil {
		t.Fatal(err)
	}
	return string(b)
}

func TestP7_2Examples(t *testing.T) {
	for s, m := range map[string]api.Msg{
		"01":             {Kind: api.MsgHello},
		"03 01 ac 02 02": {Kind: api.MsgBeat, Session: 1, Number: 300, Badge: 2},
		"04 01 02 03 01 00 3f f0 00 00 00 00 00 00": {Kind: api.MsgDone, Session: 1, Number: 2, Badge: 3, Count: 1, Result: api.Result{Bits: 0x3ff0000000000000}},
		"05 03 00 03 31 70 30":                      {Kind: api.MsgChunk, Badge: 3, Text: "1p0"},
		"06 01 03 00 00":                            {Kind: api.MsgPut, Job: 1, Badge: 3},
	} {
		b := bytesOf(t, s)
		if c, e := wire.Encode(m); c != b || e != api.OK {
			t.Errorf("%+v: %x, %d", m, c, e)
		}
		if n, e := wire.Decode(b); n != m || e != api.OK {
			t.Errorf("%s: %+v, %d", s, n, e)
		}
	}
	checkNone(t, "", "00", "01 00", "02 01", "03 01 80 00 02", "06 01 03 00 01 61")
}

// checkNone: bytes that are no message.
func checkNone(t *testing.T, l ...string) {
	t.Helper()
	for _, s := range l {
		if m, e := wire.Decode(bytesOf(t, s)); m != (api.Msg{}) || e != api.ErrWireForm {
			t.Errorf("%s: %+v, %d", s, m, e)
		}
	}
}

// The whole table by hand: each kind's number, its fields in their order.
func TestP7_2EachKindsBytes(t *testing.T) {
	whole := api.Msg{Session: 11, Number: 12, Job: 3, Badge: 14, Index: 15, Count: 16, Result: api.Result{Bits: 0x0102030405060708}, Text: "tt", Program: "ppp"}
	for _, x := range []struct {
		kind  int
		bytes string
	}{
		{api.MsgHello, "01"}, {api.MsgPoll, "02 0b 0c"}, {api.MsgBeat, "03 0b 0c 0e"}, {api.MsgDone, "04 0b 0c 0e 10 00 01 02 03 04 05 06 07 08"},
		{api.MsgChunk, "05 0e 0f 02 74 74"}, {api.MsgPut, "06 03 0e 0f 02 74 74"}, {api.MsgWelcome, "07 0b"}, {api.MsgStale, "08 0b 0c"},
		{api.MsgOffer, "09 0b 0c 03 0e 03 70 70 70"}, {api.MsgNone, "0a 0b 0c"}, {api.MsgAlive, "0b 0b 0c"}, {api.MsgGone, "0c 0b 0c"},
		{api.MsgRecorded, "0d 0b 0c"}, {api.MsgAck, "0e 0e 10"}, {api.MsgTook, "0f 03 0e 10"}, {api.MsgRefused, "10 03 0e"},
	} {
		k, _ := kindOf(x.kind)
		m := api.Msg{Kind: x.kind}
		for _, name := range k.names {
			set(&m, name, get(whole, name))
		}
		b := bytesOf(t, x.bytes)
		if c, e := wire.Encode(m); c != b || e != api.OK {
			t.Errorf("%s: %x, %d", k.word, c, e)
		}
		if n, e := wire.Decode(b); n != m || e != api.OK {
			t.Errorf("%s: %+v, %d", k.word, n, e)
		}
	}
}

func TestP7_2NeverTooLong(t *testing.T) {
	most := 0
	for _, m := range someMsgs(source(73), 50) {
		most = max(most, len(encode(t, m)))
	}
	// MsgOffer: the kind, three times MaxNumber, a job, a program with its two bytes of length.
	if want := 1 + 3*6 + 1 + 2 + 1024; most != want || most > api.MaxMessage {
		t.Errorf("%d, not %d", most, want)
	}
}

func TestP7_2LongBytes(t *testing.T) {
	hello, put := "\x01", "\x06\x01\x03\x01\x20"
	for _, begin := range []string{"", hello, put, "\x00", "\x11", "\x80", "\xff"} {
		for _, size := range []int{2047, 2048, 2049, 2050, 4096, 1 << 22} {
			for _, fill := range []string{"\x00", "a", "\x80", "\xff"} {
				checkBytes(t, begin+strings.Repeat(fill, size-len(begin)))
			}
		}
	}
	if m, e := wire.Decode(strings.Repeat("a", 2049)); m != (api.Msg{}) || e != api.ErrWireLong {
		t.Error(m, e)
	}
	if m, e := wire.Decode(strings.Repeat("a", 2048)); m != (api.Msg{}) || e != api.ErrWireForm {
		t.Error(m, e)
	}
}

// What can be laid as bytes and may not be.
func TestP7_2WhatMayNotBe(t *testing.T) {
	const top, over = "80 80 80 80 80 20", "81 80 80 80 80 20"
	zeros := strings.Repeat("00 ", 7)
	checkNone(t,
		"11", "12", "7f", "80 01", "81 00", "ff", // kinds
		"02 00 01", "02 01 00", "02 01 "+over, "02 "+over+" 01", "03 01 01 00", "03 01 01 "+over, // sessions, numbers, badges
		"02 ff ff ff ff ff ff ff ff ff 01 01", "02 01 80 80 80 80 80 80 80 80 80 01", "02 01 81 80 80 80 80 80 80 80 80 02",
		"10 00 01", "10 09 01", "10 80 01 01", // jobs
		"05 01 20 00", "06 01 01 11 00", "04 01 01 01 21 00 00 "+zeros, "0e 01 21", "0f 01 01 12", // indexes, counts
		"04 01 01 01 00 08 00 "+zeros, "04 01 01 01 00 01 "+zeros+" 01", "04 01 01 01 00 00 7f f8 00 00 00 00 00 00", "04 01 01 01 00 00 ff f8 00 00 00 00 00 01", // results
		"05 01 00 21 "+strings.Repeat("61 ", 33), "06 01 01 01 21 "+strings.Repeat("61 ", 33), "06 01 01 00 01 61", // texts
		"09 01 01 01 01 00", "09 01 01 01 01 81 08 "+strings.Repeat("61 ", 1025), // programs
	)
	for _, s := range []string{
		"02 01 01", "02 01 " + top, "02 " + top + " 01", "03 01 01 " + top, "10 08 01", "05 01 1f 00", "06 01 01 10 00", "06 01 01 00 00", "04 01 01 01 20 00 00 " + zeros, "0e 01 20", "0f 01 01 11",
		"04 01 01 01 00 07 00 " + zeros, "04 01 01 01 00 00 7f f8 00 00 00 00 00 01", "04 01 01 01 00 00 80 " + zeros,
		"05 01 00 20 " + strings.Repeat("61 ", 32), "06 01 01 01 20 " + strings.Repeat("61 ", 32), "09 01 01 01 01 80 08 " + strings.Repeat("61 ", 1024),
	} {
		if !checkBytes(t, bytesOf(t, s)) {
			t.Error(s)
		}
	}
}

// The forms of messages whose fields may not be: what Check refuses, Decode does.
func TestP7_2BytesOfWhatMayNotBe(t *testing.T) {
	rnd := source(74)
	refused := 0
	for _, k := range allKinds() {
		for _, name := range k.names {
			for _, v := range edges(name) {
				m := anyMsg(rnd, k)
				set(&m, name, v)
				if !checkBytes(t, modelBytes(m)) {
					refused++
				}
			}
		}
	}
	if refused < 500 {
		t.Error(refused)
	}
}

// Numbers with noughts ahead, as their forms could be longer, are none.
func TestP7_2LongerForms(t *testing.T) {
	checkNone(t, "81 00", "82 00 01 01", "02 81 00 01", "02 01 81 00", "05 01 80 00 00", "05 01 00 80 00", "05 01 00 81 00 61", "0e 01 80 00", "04 01 01 01 00 80 00 00 00 00 00 00 00 00 00", "09 01 01 01 01 81 00 61")
	for _, m := range someMsgs(source(75), 10) {
		b := encode(t, m)
		for i := range min(len(b), 40) {
			checkBytes(t, b[:i]+string([]byte{b[i] | 128, 0})+b[i+1:])
		}
	}
}

func TestP7_2CutAndMore(t *testing.T) {
	for _, m := range someMsgs(source(76), 20) {
		b := encode(t, m)
		for i := range b {
			if checkBytes(t, b[:i]) {
				t.Fatalf("%x, cut at %d", b, i)
			}
		}
		for _, more := range []string{"\x00", "\x01", "a", "\xff", b} {
			if checkBytes(t, b+more) {
				t.Fatalf("%x and %x", b, more)
			}
		}
	}
}

// All rows of up to two bytes, and those of three whose first one is a kind's, or nearly.
func TestP7_2ShortBytes(t *testing.T) {
	taken := 0
	for a := range 256 {
		checkBytes(t, string([]byte{byte(a)}))
		for b := range 256 {
			checkBytes(t, string([]byte{byte(a), byte(b)}))
			if a > 17 && a != 128 {
				continue
			}
			for c := range 256 {
				if checkBytes(t, string([]byte{byte(a), byte(b), byte(c)})) {
					taken++
				}
			}
		}
	}
	// Six kinds of a session and a number, an ack, a refusal, a welcome to a session of two bytes.
	if want := 6*127*127 + 127*33 + 8*127 + 128*127; taken != want {
		t.Errorf("%d, not %d", taken, want)
	}
}

// Bytes that are nearly a message's.
func TestP7_2AnyBytes(t *testing.T) {
	rnd := source(77)
	taken := 0
	for range 40000 {
		b := []byte(modelBytes(anyMsg(rnd, allKinds()[rnd.IntN(len(allKinds()))])))
		for range rnd.IntN(4) {
			at := rnd.IntN(len(b))
			switch rnd.IntN(4) {
			case 0:
				b[at] = byte(rnd.IntN(256))
			case 1:
				b[at] ^= 1 << rnd.IntN(8)
			case 2:
				b = append(b[:at:at], append([]byte(pack.Num(rnd.Uint64()>>rnd.IntN(64))), b[at:]...)...)
			case 3:
				b = append(b[:at:at], b[at+1:]...)
			}
			if len(b) == 0 {
				break
			}
		}
		if checkBytes(t, string(b)) {
			taken++
		}
	}
	if taken < 10000 || taken > 35000 {
		t.Error(taken)
	}
}
