package sink_test

import (
	"math"
	"math/rand"
	"strings"
	"testing"

	"gaffer/api"
	"gaffer/wire"
)

// mayBeSaid: whether a message may bear a put.
func mayBeSaid(x entry) bool {
	return x.job >= 1 && x.job <= 8 && x.badge >= 1 && x.badge <= top && x.index >= 0 && x.index <= 16 &&
		len(x.text) <= 32 && (x.index > 0 || x.text == "")
}

var runner = api.Addr{Node: 2, Life: 1}

// passes: nothing is said to some bytes, and nothing comes of them.
func (b both) passes(data string) {
	b.t.Helper()
	if l := b.s.Hear(runner, data); len(l) > 0 {
		b.t.Fatalf("Hear(%q): %+v", data, l)
	}
}

// everyKind is a message of each kind, its fields those of a put where it has them.
func everyKind() []api.Msg {
	return []api.Msg{
		{Kind: api.MsgHello},
		{Kind: api.MsgPoll, Session: 1, Number: 1},
		{Kind: api.MsgBeat, Session: 1, Number: 1, Badge: 3},
		{Kind: api.MsgDone, Session: 1, Number: 1, Badge: 3, Count: 1},
		{Kind: api.MsgChunk, Badge: 3, Index: 1, Text: "a"},
		{Kind: api.MsgPut, Job: 1, Badge: 3, Index: 1, Text: "a"},
		{Kind: api.MsgWelcome, Session: 1},
		{Kind: api.MsgStale, Session: 1, Number: 1},
		{Kind: api.MsgOffer, Session: 1, Number: 1, Job: 1, Badge: 3, Program: "p"},
		{Kind: api.MsgNone, Session: 1, Number: 1},
		{Kind: api.MsgAlive, Session: 1, Number: 1},
		{Kind: api.MsgGone, Session: 1, Number: 1},
		{Kind: api.MsgRecorded, Session: 1, Number: 1},
		{Kind: api.MsgAck, Badge: 3, Count: 1},
		{Kind: api.MsgTook, Job: 1, Badge: 3, Count: 1},
		{Kind: api.MsgRefused, Job: 1, Badge: 3},
	}
}

// The other fifteen kinds are heard, and nothing is said.
func TestP16_3OtherKinds(t *testing.T) {
	b := made(t)
	b.fill(1, 3, 0)
	for i, m := range everyKind() {
		data, e := wire.Encode(m)
		if e != api.OK || m.Kind != i+1 {
			t.Fatalf("Encode(%+v): %v", m, e)
		}
		if m.Kind == api.MsgPut {
			b.hear(runner, entry{1, 3, 1, "a"})
		} else {
			b.passes(data)
		}
		b.same()
	}
	if len(b.tell()) != 2 {
		t.Error("the put was not admitted")
	}
}

// Bytes that are no message: a put that is cut, that goes on, or whose fields may not be.
func TestP16_3NoMessage(t *testing.T) {
	b := made(t)
	b.fill(1, 3, 1)
	whole := entry{1, 3, 2, "abc"}.bytes()
	for n := range len(whole) {
		b.passes(whole[:n])
		b.passes(whole[n+1:])
	}
	for _, more := range []string{"\x00", "x", whole} {
		b.passes(whole + more)
	}
	for _, x := range []entry{
		{0, 3, 0, ""}, {9, 3, 0, ""}, {1, 0, 0, ""}, {1, top + 1, 0, ""}, {1, 3, 17, "a"}, {1, 4, 0, "a"}, {1, 3, 2, long(33)}, {1, 3, 2, long(2000)},
		{math.MaxInt, 3, 0, ""}, {1, math.MaxInt, 0, ""}, {1, 3, math.MaxInt, ""}, {-1, 3, 0, ""}, {1, -1, 0, ""}, {1, 3, -1, ""},
	} {
		b.passes(x.bytes())
	}
	for _, data := range []string{"", "\x00", "\x06", "\x11\x01\x03", "\x86\x00\x01\x03\x02\x00", "\x06\x81\x00\x03\x02\x00", "\x06\x01\x03\x82\x00\x00",
		strings.Repeat("\x06", 2048), strings.Repeat("\x06", 2049), whole + long(2049), long(1 << 16)} {
		b.passes(data)
	}
	b.same()
}

// To any bytes at all, and to puts of which some bytes were changed: just a put is answered.
func TestP16_3AnyBytes(t *testing.T) {
	for seed := range int64(40) {
		rnd := rand.New(rand.NewSource(seed))
		b := made(t)
		b.fill(1, 1, 1)
		heard := 0
		for range 1500 {
			data := []byte(entry{1 + rnd.Intn(2), 1 + rnd.Intn(3), rnd.Intn(4), long(rnd.Intn(4))}.bytes())
			if rnd.Intn(3) == 0 {
				data = data[:rnd.Intn(len(data)+1)]
			}
			for range rnd.Intn(3) {
				if len(data) > 0 {
					data[rnd.Intn(len(data))] = byte(rnd.Intn(20))
				}
			}
			m, e := wire.Decode(string(data))
			if e != api.OK || m.Kind != api.MsgPut {
				b.passes(string(data))
				continue
			}
			heard++
			b.hear(runner, entry{m.Job, m.Badge, m.Index, m.Text})
			if rnd.Intn(20) == 0 {
				b.same()
			}
		}
		b.same()
		if heard < 100 || heard > 1400 {
			t.Errorf("%d of 1500 were puts", heard)
		}
	}
}

// Every put that a message may bear, at every count: MsgTook tells the count as it is behind it.
func TestP16_3EveryCount(t *testing.T) {
	for count := 0; count <= 17; count++ {
		b := made(t)
		b.fill(2, 4, count-1)
		for index := range 17 {
			o := b.clone()
			o.hear(runner, entry{2, 4, index, name(4, index)})
			o.same()
			l := b.clone().s.Hear(runner, entry{2, 4, index, name(4, index)}.bytes())
			want := count
			if index == count {
				want++
			}
			if m, e := wire.Decode(l[0].Data); e != api.OK || m != (api.Msg{Kind: api.MsgTook, Job: 2, Badge: 4, Count: want}) {
				t.Fatalf("%d pieces and claim, index %d: %+v, %v", count, index, m, e)
			}
		}
	}
}

// A badge that has claimed nothing yet is told 0, whatever stands under a lesser one, and that stays.
func TestP16_3TookOfNothing(t *testing.T) {
	for pieces := 0; pieces <= 16; pieces++ {
		b := made(t)
		b.fill(3, 4, pieces)
		for index := 1; index <= 16; index++ {
			l := b.s.Hear(runner, entry{3, 5, index, "a"}.bytes())
			if len(l) != 1 || l[0].Data != "\x0f\x03\x05\x00" {
				t.Fatalf("%d pieces: Hear of 5/%d: %+v", pieces, index, l)
			}
			b.same()
		}
	}
}

// A lesser badge is refused, whatever it bears; the same and a greater one are not.
func TestP16_3Refused(t *testing.T) {
	for _, badge := range []int{1, 2, 127, 128, 129, 1 << 32, top - 1, top} {
		b := made(t)
		b.fill(8, badge, 2)
		for _, other := range []int{1, 2, 126, 127, 128, badge - 1, badge, badge + 1, top - 1, top} {
			if other < 1 || other > top {
				continue
			}
			for index := range 17 {
				o := b.clone()
				x := entry{8, other, index, name(other, index)[:min(index, 3)]}
				if refused := o.hear(runner, x); refused != (other < badge) {
					t.Fatalf("badge %d: Hear(%+v): refused %v", badge, x, refused)
				}
				o.same()
				if other < badge && len(o.tell()) != 3 {
					t.Fatal("a put that is refused was told")
				}
			}
		}
	}
}

// Whoever it comes from is answered, from the sink's one address.
func TestP16_3Addresses(t *testing.T) {
	b := made(t)
	for i, from := range []api.Addr{{}, {Node: 1}, {Node: 2, Life: 1}, {Node: 9, Life: top}, {Node: -1, Life: -1}, {Node: math.MaxInt, Life: math.MinInt}} {
		b.hear(from, entry{1, 1 + i, 0, ""})
		b.hear(from, entry{1, 1 + i, 1, "a"})
		b.hear(from, entry{1, 1 + i, 3, "c"})
		if i > 0 {
			b.hear(from, entry{1, i, 1, "a"})
		}
		b.same()
	}
}

// What is heard is put: the same is answered, admitted and told as if Put had been asked; both may change about.
func TestP16_3HearIsPut(t *testing.T) {
	for seed := range int64(60) {
		rnd := rand.New(rand.NewSource(seed))
		b, o := made(t), made(t)
		for range 200 {
			x := anyEntry(rnd, b.w)
			if mayBeSaid(x) && rnd.Intn(3) > 0 {
				b.hear(runner, x)
			} else {
				b.put(x)
			}
			o.put(x)
			if rnd.Intn(10) == 0 && !sameEvents(b.tell(), o.tell()) {
				t.Fatal("what was told is not the same")
			}
		}
		if !sameArtefacts(b.s.Artefacts(), o.s.Artefacts()) {
			t.Fatalf("%+v, not %+v", b.s.Artefacts(), o.s.Artefacts())
		}
	}
}

// R4: what is said is new memory, and stays as it was.
func TestR4Said(t *testing.T) {
	b := made(t)
	first := b.s.Hear(runner, entry{1, 1, 0, ""}.bytes())
	then := first[0]
	second := b.s.Hear(runner, entry{1, 1, 0, ""}.bytes())
	spoil(second, api.Datagram{Num: 9, Data: "spoilt"})
	third := b.s.Hear(runner, entry{1, 1, 0, ""}.bytes())
	if len(first) != 1 || first[0] != then || len(third) != 1 || third[0] != then {
		t.Errorf("%+v, %+v, not %+v", first, third, then)
	}
}
