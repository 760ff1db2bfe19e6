package wire_test

import (
	"math"
	"reflect"
	"strings"
	"testing"

	"gaffer/api"
	"gaffer/wire"
)

func TestP7_1Examples(t *testing.T) {
	for i, x := range []struct {
		m api.Msg
		e api.Errno
	}{
		{api.Msg{}, api.ErrWireKind}, {api.Msg{Kind: 17}, api.ErrWireKind}, {api.Msg{Kind: api.MsgHello, Session: 1}, api.ErrWireField},
		{api.Msg{Kind: api.MsgPoll, Session: 1}, api.ErrWireField}, {api.Msg{Kind: api.MsgPut, Job: 1, Badge: 1, Text: "a"}, api.ErrWireField},
		{api.Msg{Kind: api.MsgHello}, api.OK}, {api.Msg{Kind: api.MsgPoll, Session: 1, Number: 1}, api.OK}, {api.Msg{Kind: api.MsgPut, Job: 1, Badge: 1}, api.OK},
		{api.Msg{Kind: api.MsgBeat, Session: 1, Number: 300, Badge: 2}, api.OK}, {api.Msg{Kind: api.MsgChunk, Badge: 3, Text: "1p0"}, api.OK},
		{api.Msg{Kind: api.MsgDone, Session: 1, Number: 2, Badge: 3, Count: 1, Result: api.Result{Bits: 0x3ff0000000000000}}, api.OK},
	} {
		if e := wire.Check(x.m); e != x.e {
			t.Errorf("%d: %d, not %d", i, e, x.e)
		}
	}
}

// The chapter speaks of just the fields that a message has.
func TestP7_1AllFields(t *testing.T) {
	var names []string
	for _, f := range reflect.VisibleFields(reflect.TypeFor[api.Msg]()) {
		names = append(names, f.Name)
	}
	if s := strings.Join(names, " "); s != "Kind "+allNames {
		t.Error(s)
	}
}

// What may not be in the fields of a kind that is none is not told.
func TestP7_1Kinds(t *testing.T) {
	for _, kind := range []int{math.MinInt, -1 << 32, -255, -16, -1, 0, 17, 18, 32, 256 + 1, 1<<32 + 1, 1 << 40, math.MaxInt} {
		for _, m := range []api.Msg{{}, {Session: 1}, {Session: -1, Job: 9}, {Session: 1, Number: 1, Badge: 1}, {Text: strings.Repeat("a", 33)}, {Result: api.Result{Code: 8}}} {
			m.Kind = kind
			if e := wire.Check(m); e != api.ErrWireKind {
				t.Errorf("%d: %d", kind, e)
			}
			if b, e := wire.Encode(m); b != "" || e != api.ErrWireKind {
				t.Errorf("%d: %x, %d", kind, b, e)
			}
		}
	}
	for kind := 1; kind <= 16; kind++ {
		if e := wire.Check(api.Msg{Kind: kind, Session: -1}); e != api.ErrWireField {
			t.Errorf("%d: %d", kind, e)
		}
	}
}

// Each field of each kind, at its edges and beyond, in messages that may be but for it.
func TestP7_1EachKindAndField(t *testing.T) {
	rnd := source(71)
	for _, k := range allKinds() {
		ends := extremes(k)
		for _, m := range append(ends[:], anyMsg(rnd, k), anyMsg(rnd, k)) {
			for _, name := range strings.Fields(allNames) {
				for _, v := range edges(name) {
					n := m
					set(&n, name, v)
					checkMsg(t, n)
				}
			}
		}
	}
}

// A few of those edges by hand: the least and the greatest that may be, and their neighbours.
func TestP7_1Bounds(t *testing.T) {
	const top = 1 << 40
	chunk := func(i int) api.Msg { return api.Msg{Kind: api.MsgChunk, Badge: 1, Index: i} }
	put := func(i int) api.Msg { return api.Msg{Kind: api.MsgPut, Job: 1, Badge: 1, Index: i} }
	done := func(i int) api.Msg { return api.Msg{Kind: api.MsgDone, Session: 1, Number: 1, Badge: 1, Count: i} }
	ack := func(i int) api.Msg { return api.Msg{Kind: api.MsgAck, Badge: 1, Count: i} }
	took := func(i int) api.Msg { return api.Msg{Kind: api.MsgTook, Job: 1, Badge: 1, Count: i} }
	refused := func(i int) api.Msg { return api.Msg{Kind: api.MsgRefused, Job: i, Badge: 1} }
	welcome := func(i int) api.Msg { return api.Msg{Kind: api.MsgWelcome, Session: i} }
	gone := func(i int) api.Msg { return api.Msg{Kind: api.MsgGone, Session: 1, Number: i} }
	badge := func(i int) api.Msg { return api.Msg{Kind: api.MsgRefused, Job: 1, Badge: i} }
	text := func(i int) api.Msg {
		return api.Msg{Kind: api.MsgChunk, Badge: 1, Text: strings.Repeat("a", max(i, 0))}
	}
	offer := func(i int) api.Msg {
		return api.Msg{Kind: api.MsgOffer, Session: 1, Number: 1, Job: 1, Badge: 1, Program: strings.Repeat("a", max(i, 0))}
	}
	for i, x := range []struct {
		of          func(int) api.Msg
		least, most int
	}{
		{chunk, 0, 31}, {put, 0, 16}, {done, 0, 32}, {ack, 0, 32}, {took, 0, 17}, {refused, 1, 8},
		{welcome, 1, top}, {gone, 1, top}, {badge, 1, top}, {offer, 1, 1024},
	} {
		for _, n := range []int{x.least, x.least + 1, x.most - 1, x.most} {
			if e := wire.Check(x.of(n)); e != api.OK {
				t.Errorf("%d: %d: %d", i, n, e)
			}
		}
		for _, n := range []int{x.least - 1, x.most + 1} {
			if e := wire.Check(x.of(n)); e != api.ErrWireField {
				t.Errorf("%d: %d: %d", i, n, e)
			}
		}
	}
	for size, want := range map[int]api.Errno{0: api.OK, 1: api.OK, 32: api.OK, 33: api.ErrWireField} {
		if e := wire.Check(text(size)); e != want {
			t.Errorf("a text of %d: %d", size, e)
		}
	}
}

func TestP7_1Results(t *testing.T) {
	for _, r := range edgeResults() {
		for _, k := range allKinds() {
			for _, m := range extremes(k) {
				m.Result = r
				checkMsg(t, m)
			}
		}
	}
	done := api.Msg{Kind: api.MsgDone, Session: 1, Number: 1, Badge: 1}
	for _, x := range []struct {
		r api.Result
		e api.Errno
	}{
		{api.Result{Bits: oneNaN}, api.OK}, {api.Result{Bits: oneNaN + 1}, api.ErrWireField}, {api.Result{Bits: oneNaN - 1}, api.ErrWireField}, {api.Result{Bits: 1<<63 | oneNaN}, api.ErrWireField},
		{api.Result{Bits: 0x7ff0000000000000}, api.OK}, {api.Result{Bits: 1 << 63}, api.OK}, {api.Result{Code: api.TrapFail}, api.OK}, {api.Result{Code: api.TrapFuel}, api.OK},
		{api.Result{Code: api.TrapFail + 1}, api.ErrWireField}, {api.Result{Code: -1}, api.ErrWireField}, {api.Result{Code: 1, Bits: 1}, api.ErrWireField}, {api.Result{Code: 7, Bits: oneNaN}, api.ErrWireField},
	} {
		done.Result = x.r
		if e := wire.Check(done); e != x.e {
			t.Errorf("%v: %d, not %d", x.r, e, x.e)
		}
	}
}

// A put with the index 0 has no text, one with another may; a chunk with the index 0 may.
func TestP7_1Claim(t *testing.T) {
	for _, index := range []int{-1, 0, 1, 2, 15, 16, 17} {
		for _, text := range edgeTexts() {
			checkMsg(t, api.Msg{Kind: api.MsgPut, Job: 1, Badge: 1, Index: index, Text: text})
			checkMsg(t, api.Msg{Kind: api.MsgChunk, Badge: 1, Index: index, Text: text})
		}
	}
}

// Several fields at once, each as it may be in some message or in none.
func TestP7_1AnyMessages(t *testing.T) {
	rnd := source(72)
	names := strings.Fields(allNames)
	for range 30000 {
		k := allKinds()[rnd.IntN(len(allKinds()))]
		m := anyMsg(rnd, k)
		for range rnd.IntN(3) {
			name := names[rnd.IntN(len(names))]
			l := edges(name)
			set(&m, name, l[rnd.IntN(len(l))])
		}
		if rnd.IntN(5) == 0 {
			m.Kind = rnd.IntN(20) - 1
		}
		checkMsg(t, m)
	}
}
