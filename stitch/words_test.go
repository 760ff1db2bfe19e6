package stitch_test

import (
	"slices"
	"strconv"
	"testing"

	"gaffer/api"
	"gaffer/stitch"
)

// letter is what has come of a number.
type letter struct {
	come bool
	text string
}

// words tells a stitcher by what has come of each number: nothing is held, nothing is handed on, and next is looked for. A copy of it is a clone.
type words struct {
	window, have int
	letters      [40]letter
}

// next is the first number, from those on that it had, that has not come.
func (w *words) next() int {
	i := w.have
	for w.letters[i].come {
		i++
	}
	return i
}

func (w *words) held() []int {
	var l []int
	for i := range w.letters {
		if w.letters[i].come && i > w.next() {
			l = append(l, i)
		}
	}
	return l
}

// places are the numbers that may come.
func (w *words) places() []int {
	var l []int
	for i := w.next(); i <= 31 && len(l) < w.window; i++ {
		l = append(l, i)
	}
	return l
}

func (w *words) take(index int, text string) ([]string, api.Errno) {
	if len([]byte(text)) >= 33 {
		return nil, 152
	}
	if !slices.Contains(w.places(), index) {
		return nil, 151
	}
	first := w.next()
	if !w.letters[index].come {
		w.letters[index] = letter{come: true, text: text}
	}
	var out []string
	for _, x := range w.letters[first:w.next()] {
		out = append(out, x.text)
	}
	return out, 0
}

func made(t *testing.T, window, have int) (*stitch.Window, *words) {
	t.Helper()
	s, e := stitch.New(window, have)
	if e != api.OK || s == nil {
		t.Fatalf("New(%d, %d): %v, %v", window, have, s, e)
	}
	w := &words{window: window, have: have}
	sameAnswers(t, s, w)
	return s, w
}

// cloned is a clone of both.
func cloned(s *stitch.Window, w *words) (*stitch.Window, *words) {
	c := *w
	return s.Clone(), &c
}

// name is a text that no other number has.
func name(i int) string { return "text " + strconv.Itoa(i) }

// sameAnswers asks both everything that changes nothing.
func sameAnswers(t *testing.T, s *stitch.Window, w *words) {
	t.Helper()
	next, held := s.Next(), s.Held()
	if next != w.next() || !slices.Equal(held, w.held()) {
		t.Fatalf("%+v: Next %d, Held %v, not %d, %v", *w, next, held, w.next(), w.held())
	}
}

// sameTake takes a text at both, and holds their answers against each other.
func sameTake(t *testing.T, s *stitch.Window, w *words, index int, text string) ([]string, api.Errno) {
	t.Helper()
	ahead := *w
	got, e := s.Take(index, text)
	if want, f := w.take(index, text); !slices.Equal(got, want) || e != f {
		t.Fatalf("%+v: Take(%d, %q): %q, %v, not %q, %v", ahead, index, text, got, e, want, f)
	}
	sameAnswers(t, s, w)
	return got, e
}

// sameRest has all that is held handed on, at clones of both: the texts stand as they should.
func sameRest(t *testing.T, s *stitch.Window, w *words) {
	t.Helper()
	s, w = cloned(s, w)
	for len(w.held()) > 0 {
		sameTake(t, s, w, w.next(), "rest")
	}
}

// sameEnd goes on to the stream's end, at clones of both.
func sameEnd(t *testing.T, s *stitch.Window, w *words) {
	t.Helper()
	s, w = cloned(s, w)
	for w.next() < 32 {
		sameTake(t, s, w, w.next(), "end")
	}
	if s.Next() != 32 || len(s.Held()) > 0 {
		t.Fatalf("Next %d, Held %v", s.Next(), s.Held())
	}
}
