package chunks_test

import (
	"slices"
	"testing"

	"gaffer/api"
	"gaffer/chunks"
)

// letter is a text with what became of it.
type letter struct {
	text        string
	said, acked bool
}

// words tells a sender letter by letter and by a clock: nothing is counted, and nothing is counted down.
type words struct {
	window, resend int
	letters        []letter
	now            int
	again          int // the moment at which the window is said anew; gone by: the timer is 0
}

func (w *words) count(is func(letter) bool) int {
	n := 0
	for _, x := range w.letters {
		if is(x) {
			n++
		}
	}
	return n
}

func (w *words) acked() int { return w.count(func(x letter) bool { return x.acked }) }

func (w *words) said() int { return w.count(func(x letter) bool { return x.said }) }

func (w *words) timer() int {
	if w.again <= w.now {
		return 0
	}
	return w.again - w.now
}

func (w *words) put(text string) api.Errno {
	if len([]byte(text)) >= 33 {
		return 142
	}
	if len(w.letters) == 32 {
		return 141
	}
	w.letters = append(w.letters, letter{text: text})
	return 0
}

func (w *words) room() bool {
	left := w.window
	for _, x := range w.letters {
		if !x.acked {
			left--
		}
	}
	return left >= 1
}

// items are the window's.
func (w *words) items() []chunks.Item {
	var l []chunks.Item
	for i, x := range w.letters {
		if !x.acked && len(l) < w.window {
			l = append(l, chunks.Item{Index: i, Text: x.text})
		}
	}
	return l
}

func (w *words) due() []chunks.Item {
	runs := w.again > w.now
	var out []chunks.Item
	for _, x := range w.items() {
		if runs && w.letters[x.Index].said {
			continue
		}
		w.letters[x.Index].said = true
		out = append(out, x)
	}
	if len(out) > 0 && !runs {
		w.again = w.now + w.resend
	}
	return out
}

func (w *words) ack(count int) bool {
	if count < 1 || count > len(w.letters) || w.letters[count-1].acked || !w.letters[count-1].said {
		return false
	}
	for i := range count {
		w.letters[i].acked = true
	}
	if count == len(w.letters) {
		w.again = w.now
	}
	return true
}

func (w *words) clone() *words {
	c := *w
	c.letters = slices.Clone(w.letters)
	return &c
}

func made(t *testing.T, window, resend int) (*chunks.Sender, *words) {
	t.Helper()
	s, e := chunks.New(window, resend)
	if e != api.OK || s == nil {
		t.Fatalf("New(%d, %d): %v, %v", window, resend, s, e)
	}
	w := &words{window: window, resend: resend}
	sameAnswers(t, s, w)
	return s, w
}

// filled is one into which the letters of the alphabet were put, one by one.
func filled(t *testing.T, window, resend, texts int) (*chunks.Sender, *words) {
	t.Helper()
	s, w := made(t, window, resend)
	putMore(t, s, w, texts)
	return s, w
}

func putMore(t *testing.T, s *chunks.Sender, w *words, texts int) {
	t.Helper()
	for range texts {
		if e := samePut(t, s, w, name(len(w.letters))); e != api.OK {
			t.Fatalf("Put: %v", e)
		}
	}
}

// name is a text that no other number has.
func name(i int) string { return string(rune('a' + i)) }

// sameAnswers asks both everything that changes nothing.
func sameAnswers(t *testing.T, s *chunks.Sender, w *words) {
	t.Helper()
	if s.Len() != len(w.letters) || s.Acked() != w.acked() || s.Said() != w.said() || s.Timer() != w.timer() || s.Room() != w.room() {
		t.Fatalf("%+v: Len %d, Acked %d, Said %d, Timer %d, Room %v", *w, s.Len(), s.Acked(), s.Said(), s.Timer(), s.Room())
	}
}

// sameRest drains clones of both: the texts that are left stand as they should.
func sameRest(t *testing.T, s *chunks.Sender, w *words) {
	t.Helper()
	s, w = s.Clone(), w.clone()
	for w.acked() < len(w.letters) {
		sameDue(t, s, w)
		sameAck(t, s, w, w.said())
	}
	sameAnswers(t, s, w)
}

// The calls that change something, done to both, held against each other.

func samePut(t *testing.T, s *chunks.Sender, w *words, text string) api.Errno {
	t.Helper()
	ahead := w.clone()
	e := s.Put(text)
	if want := w.put(text); e != want {
		t.Fatalf("%+v: Put(%q): %v, not %v", *ahead, text, e, want)
	}
	sameAnswers(t, s, w)
	return e
}

func sameTick(t *testing.T, s *chunks.Sender, w *words) {
	t.Helper()
	s.Tick()
	w.now++
	sameAnswers(t, s, w)
}

func sameDue(t *testing.T, s *chunks.Sender, w *words) []chunks.Item {
	t.Helper()
	ahead := w.clone()
	got := s.Due()
	if want := w.due(); !slices.Equal(got, want) {
		t.Fatalf("%+v: Due: %v, not %v", *ahead, got, want)
	}
	sameAnswers(t, s, w)
	return got
}

func sameAck(t *testing.T, s *chunks.Sender, w *words, count int) bool {
	t.Helper()
	ahead := w.clone()
	got := s.Ack(count)
	if want := w.ack(count); got != want {
		t.Fatalf("%+v: Ack(%d): %v, not %v", *ahead, count, got, want)
	}
	sameAnswers(t, s, w)
	return got
}
