package sink_test

import (
	"encoding/binary"
	"reflect"
	"slices"
	"strconv"
	"strings"
	"testing"

	"gaffer/api"
	"gaffer/sink"
)

const top = 1 << 40

// entry is a piece that came.
type entry struct {
	job, badge, index int
	text              string
}

// words tells a sink by all that it ever admitted: nothing in there is replaced, an artefact is what is found of it.
type words struct {
	all  []entry
	told int // so many were told
}

// badge is the greatest one under which something of a job came in, or 0.
func (w *words) badge(job int) int {
	b := 0
	for _, x := range w.all {
		if x.job == job {
			b = max(b, x.badge)
		}
	}
	return b
}

// under is the texts that came in of a job under a badge, the claim's too.
func (w *words) under(job, badge int) []string {
	var l []string
	for _, x := range w.all {
		if x.job == job && x.badge == badge {
			l = append(l, x.text)
		}
	}
	return l
}

func (w *words) artefacts() []api.Artefact {
	var l []api.Artefact
	for job := range 9 {
		if b := w.badge(job); b > 0 {
			l = append(l, api.Artefact{Job: job, Badge: b, Pieces: w.under(job, b)[1:]})
		}
	}
	return l
}

func (w *words) put(x entry) (int, bool, api.Errno) {
	if !slices.Contains([]int{1, 2, 3, 4, 5, 6, 7, 8}, x.job) {
		return 0, false, 160
	}
	if n := len([]byte(x.text)); n >= 33 || n >= 1 && x.index == 0 {
		return 0, false, 163
	}
	if x.badge <= 0 || x.badge >= top+1 || x.badge < w.badge(x.job) {
		return 0, false, 161
	}
	n := len(w.under(x.job, x.badge))
	if x.index <= -1 || x.index >= 17 || x.index >= n+1 {
		return 0, false, 162
	}
	if x.index != n {
		return n, false, 0
	}
	w.all = append(w.all, x)
	return n + 1, true, 0
}

// hear is the bytes that are said to a put that may be a message.
func (w *words) hear(x entry) string {
	if _, _, e := w.put(x); e == 161 {
		return bytesOf(16, x.job, x.badge)
	}
	return bytesOf(15, x.job, x.badge, len(w.under(x.job, x.badge)))
}

func (w *words) tell() []api.Event {
	var l []api.Event
	for _, x := range w.all[w.told:] {
		l = append(l, api.Event{Kind: api.EvAdmitted, Job: x.job, Badge: x.badge, Index: x.index, Text: x.text})
	}
	w.told = len(w.all)
	return l
}

func (w *words) clone() *words { return &words{slices.Clone(w.all), w.told} }

// bytesOf is numbers as pack lays them, told by another library.
func bytesOf(l ...int) string {
	var b []byte
	for _, n := range l {
		b = binary.AppendUvarint(b, uint64(n))
	}
	return string(b)
}

// bytes is the MsgPut.
func (x entry) bytes() string {
	return bytesOf(6, x.job, x.badge, x.index, len(x.text)) + x.text
}

// both is a sink and its telling.
type both struct {
	t *testing.T
	s *sink.Sink
	w *words
}

func made(t *testing.T) both {
	t.Helper()
	b := both{t, sink.New(), &words{}}
	if b.s == nil {
		t.Fatal("New: nil")
	}
	b.same()
	return b
}

func (b both) clone() both { return both{b.t, b.s.Clone(), b.w.clone()} }

func sameArtefacts(a, b []api.Artefact) bool {
	return slices.EqualFunc(a, b, func(x, y api.Artefact) bool {
		return x.Job == y.Job && x.Badge == y.Badge && slices.Equal(x.Pieces, y.Pieces)
	})
}

func sameEvents(a, b []api.Event) bool {
	return slices.EqualFunc(a, b, func(x, y api.Event) bool {
		if len(x.Texts)+len(y.Texts) > 0 {
			return false
		}
		x.Texts, y.Texts = nil, nil
		return reflect.DeepEqual(x, y)
	})
}

// same asks both all that there is to ask; what is not told yet is asked of a clone.
func (b both) same() {
	b.t.Helper()
	if got, want := b.s.Artefacts(), b.w.artefacts(); !sameArtefacts(got, want) {
		b.t.Fatalf("Artefacts: %+v, not %+v", got, want)
	}
	if got, want := b.s.Clone().Told(), b.w.clone().tell(); !sameEvents(got, want) {
		b.t.Fatalf("Told of a clone: %+v, not %+v", got, want)
	}
}

func (b both) put(x entry) (int, bool, api.Errno) {
	b.t.Helper()
	ahead := b.w.artefacts()
	n, is, e := b.s.Put(x.job, x.badge, x.index, x.text)
	if m, was, f := b.w.put(x); n != m || is != was || e != f {
		b.t.Fatalf("%+v: Put(%+v): %d, %v, %v, not %d, %v, %v", ahead, x, n, is, e, m, was, f)
	}
	return n, is, e
}

// hear says a put as a message; whether it was refused.
func (b both) hear(from api.Addr, x entry) bool {
	b.t.Helper()
	ahead := b.w.artefacts()
	got := b.s.Hear(from, x.bytes())
	want := api.Datagram{From: api.Addr{Node: 1}, To: from, Data: b.w.hear(x)}
	if len(got) != 1 || got[0] != want {
		b.t.Fatalf("%+v: Hear(%v, %+v): %+v, not %+v", ahead, from, x, got, want)
	}
	return want.Data[0] == 16
}

func (b both) tell() []api.Event {
	b.t.Helper()
	got := b.s.Told()
	if want := b.w.tell(); !sameEvents(got, want) {
		b.t.Fatalf("Told: %+v, not %+v", got, want)
	}
	return got
}

// puts holds an answer against what it should be.
func (b both) puts(x entry, n int, is bool, e api.Errno) {
	b.t.Helper()
	if m, was, f := b.put(x); m != n || was != is || f != e {
		b.t.Fatalf("Put(%+v): %d, %v, %v, not %d, %v, %v", x, m, was, f, n, is, e)
	}
}

// refuses holds it against an error, behind which all stands as it did.
func (b both) refuses(x entry, e api.Errno) {
	b.t.Helper()
	b.puts(x, 0, false, e)
	b.same()
}

// name is a text that no other piece has.
func name(badge, index int) string {
	if index == 0 {
		return ""
	}
	return strconv.Itoa(badge) + "/" + strconv.Itoa(index)
}

// fill lays a claim, and so many pieces behind it.
func (b both) fill(job, badge, pieces int) {
	b.t.Helper()
	for i := range pieces + 1 {
		b.puts(entry{job, badge, i, name(badge, i)}, i+1, true, api.OK)
	}
}

// long is a text of so many bytes.
func long(n int) string { return strings.Repeat("a", n) }
