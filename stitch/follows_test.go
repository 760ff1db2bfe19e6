package stitch_test

import (
	"fmt"
	"math/rand"
	"slices"
	"testing"

	"gaffer/api"
	"gaffer/stitch"
)

// inBounds: what is held is above next, and below next and window, and below the stream's end.
func inBounds(t *testing.T, s *stitch.Window, window int) {
	t.Helper()
	for _, i := range s.Held() {
		if next := s.Next(); i <= next || i >= next+window || i >= 32 {
			t.Fatalf("window %d, next %d: Held %v", window, next, s.Held())
		}
	}
}

// Every text at every state that there is, of every window.
func TestP15_4EveryState(t *testing.T) {
	type both struct {
		s *stitch.Window
		w *words
	}
	for window := 1; window <= 8; window++ {
		first, words0 := made(t, window, 0)
		key := func(s *stitch.Window) string { return fmt.Sprint(s.Next(), s.Held()) }
		seen := map[string]int{key(first): 1}
		work := []both{{first, words0}}
		for len(work) > 0 {
			at := work[0]
			work = work[1:]
			next := at.s.Next()
			for index := next - 2; index <= next+window+1; index++ {
				s, w := cloned(at.s, at.w)
				sameTake(t, s, w, index, name(len(seen)))
				inBounds(t, s, window)
				sameRest(t, s, w)
				if k := key(s); seen[k] == 0 {
					seen[k] = 1
					work = append(work, both{s, w})
				}
			}
			sameAnswers(t, at.s, at.w) // what was done to its clones is not seen here
			sameRest(t, at.s, at.w)
		}
		if want := statesOfAWindow(window); len(seen) != want {
			t.Errorf("window %d: %d states, not %d", window, len(seen), want)
		}
	}
}

// statesOfAWindow: each number above next that may come is held, or is not.
func statesOfAWindow(window int) int {
	n := 1 // at the stream's end
	for next := range 32 {
		n += 1 << (min(window, 32-next) - 1)
	}
	return n
}

// reader is a stitcher and a list, of which all that it handed on is a beginning.
type reader struct {
	t      *testing.T
	s      *stitch.Window
	w      *words
	list   []string
	handed []string
}

// newReader is one of a list; the first texts of it were handed on by another one.
func newReader(t *testing.T, window, have int, list []string) *reader {
	t.Helper()
	s, w := made(t, window, have)
	return &reader{t: t, s: s, w: w, list: list, handed: slices.Clone(list[:have])}
}

func (r *reader) clone() *reader {
	o := *r
	o.s, o.w = cloned(r.s, r.w)
	o.handed = slices.Clone(r.handed)
	return &o
}

func (r *reader) take(index int) {
	r.t.Helper()
	l, e := sameTake(r.t, r.s, r.w, index, r.list[index])
	if e != api.OK && e != api.ErrStitchPlace {
		r.t.Fatalf("Take(%d): %v", index, e)
	}
	r.handed = append(r.handed, l...)
	n := len(r.handed)
	if n > len(r.list) || !slices.Equal(r.handed, r.list[:n]) || r.s.Next() != n {
		r.t.Fatalf("%q was handed on, Next %d, of %q", r.handed, r.s.Next(), r.list)
	}
	inBounds(r.t, r.s, r.w.window)
}

// goThrough takes the list as often as it has texts: all is handed on then. Others may come on the way.
func (r *reader) goThrough(between func(r *reader)) {
	r.t.Helper()
	for range r.list {
		ahead := len(r.handed)
		for i := range r.list {
			r.take(i)
			between(r)
		}
		if ahead < len(r.list) && len(r.handed) == ahead {
			r.t.Fatalf("nothing was handed on behind %d texts of %d", ahead, len(r.list))
		}
	}
	if !slices.Equal(r.handed, r.list) || len(r.s.Held()) > 0 {
		r.t.Fatalf("%q was handed on, not %q; Held %v", r.handed, r.list, r.s.Held())
	}
}

func alone(*reader) {}

// names are texts that are all different.
func names(n int) []string {
	var l []string
	for i := range n {
		l = append(l, name(i))
	}
	return l
}

// Every order of short lists, at every window: a window that has room for the list hands on all of it.
func TestP15_4EveryOrder(t *testing.T) {
	for n := 0; n <= 6; n++ {
		for window := 1; window <= 8; window++ {
			everyOrder(n, func(order []int) {
				r := newReader(t, window, 0, names(n))
				for _, i := range order {
					r.take(i)
				}
				if n <= window && len(r.handed) < n {
					t.Fatalf("window %d, order %v: %q", window, order, r.handed)
				}
				r.goThrough(alone)
			})
		}
	}
}

// everyOrder tells each order of the first numbers.
func everyOrder(n int, tell func(order []int)) {
	var from func(order []int)
	from = func(order []int) {
		if len(order) == n {
			tell(order)
			return
		}
		for i := range n {
			if !slices.Contains(order, i) {
				from(append(slices.Clone(order), i))
			}
		}
	}
	from(nil)
}

// Every row of takes of a short list, with doubles and without some.
func TestP15_4EveryRow(t *testing.T) {
	const n, long = 4, 5
	for window := 1; window <= 4; window++ {
		rows := 1
		for range long {
			rows *= n
		}
		for row := range rows {
			r := newReader(t, window, 0, names(n))
			for x, k := row, 0; k < long; x, k = x/n, k+1 {
				r.take(x % n)
			}
			r.goThrough(alone)
		}
	}
}

// anyList has texts of which some are the same, and some are empty.
func anyList(rnd *rand.Rand, n int) []string {
	l := names(n)
	for i := range l {
		if k := rnd.Intn(6); k < 2 {
			l[i] = []string{"", "twin"}[k]
		}
	}
	return l
}

// Long lists in any order, as often as you like; the list may be gone through at any time, with others between.
func TestP15_4Walks(t *testing.T) {
	whole := 0
	for seed := range int64(120) {
		rnd := rand.New(rand.NewSource(seed))
		n := rnd.Intn(33)
		if seed%3 == 0 {
			n = 32
		}
		have := 0
		if seed%2 == 0 {
			have = rnd.Intn(n + 1)
		}
		r := newReader(t, 1+int(seed)%8, have, anyList(rnd, n))
		anyOf := func(r *reader) {
			if n > 0 {
				r.take(rnd.Intn(n))
			}
		}
		for step := range 250 {
			anyOf(r)
			if n > 0 && rnd.Intn(2) == 0 {
				r.take(min(len(r.handed)+rnd.Intn(6), n-1))
			}
			if step%60 == 0 {
				r.clone().goThrough(alone)
				r.clone().goThrough(anyOf)
			}
		}
		if n > have && len(r.handed) == n {
			whole++
		}
		r.goThrough(alone)
	}
	if whole < 30 {
		t.Errorf("just %d lists were handed on as a whole on the way", whole)
	}
}
