package stitch_test

import (
	"math"
	"math/rand"
	"slices"
	"strings"
	"testing"

	"gaffer/api"
	"gaffer/stitch"
)

const top = 1 << 40

// wrong are numbers that nothing here has.
var wrong = []int{-1, -2, -8, -31, -32, -33, 33, 40, 64, 256, 257, 1 << 31, 1 << 32, 1<<32 + 1, top, top + 1, -top, math.MinInt, math.MinInt + 1, math.MaxInt - 8, math.MaxInt - 1, math.MaxInt}

// takes holds an answer against the texts and the error that it should be.
func takes(t *testing.T, s *stitch.Window, w *words, index int, text string, e api.Errno, want ...string) {
	t.Helper()
	if got, f := sameTake(t, s, w, index, text); !slices.Equal(got, want) || f != e {
		t.Fatalf("Take(%d, %q): %q, %v, not %q, %v", index, text, got, f, want, e)
	}
}

// stands holds what there is against what should be.
func stands(t *testing.T, s *stitch.Window, next int, held ...int) {
	t.Helper()
	if s.Next() != next || !slices.Equal(s.Held(), held) {
		t.Fatalf("Next %d, Held %v, not %d, %v", s.Next(), s.Held(), next, held)
	}
}

func TestNumbers(t *testing.T) {
	if api.ErrStitchWindow != 150 || api.ErrStitchPlace != 151 || api.ErrStitchText != 152 ||
		api.MaxWindow != 8 || api.MaxChunks != 32 || api.MaxText != 32 {
		t.Error("numbers of api")
	}
}

// The chapter's table of examples, call by call.
func TestP15Examples(t *testing.T) {
	for _, x := range [][2]int{{0, 0}, {9, 0}, {1, -1}, {1, 33}} {
		if s, e := stitch.New(x[0], x[1]); s != nil || e != api.ErrStitchWindow {
			t.Errorf("New(%d, %d): %v, %v", x[0], x[1], s, e)
		}
	}
	s, w := made(t, 3, 0)
	takes(t, s, w, 1, "b", api.OK)
	takes(t, s, w, 3, "d", api.ErrStitchPlace)
	stands(t, s, 0, 1)
	takes(t, s, w, 1, "x", api.OK)
	takes(t, s, w, 0, "a", api.OK, "a", "b")
	stands(t, s, 2)
	takes(t, s, w, 1, "b", api.ErrStitchPlace)
	takes(t, s, w, 4, "e", api.OK)
	takes(t, s, w, 2, "c", api.OK, "c")
	stands(t, s, 3, 4)
	s, w = made(t, 8, 30)
	takes(t, s, w, 32, "a", api.ErrStitchPlace)
	takes(t, s, w, 31, "b", api.OK)
	takes(t, s, w, 30, "c", api.OK, "c", "b")
	takes(t, s, w, 32, "d", api.ErrStitchPlace)
	stands(t, s, 32)
}

func TestP15_1EveryWindowAndHave(t *testing.T) {
	for window := 1; window <= 8; window++ {
		for have := 0; have <= 32; have++ {
			s, w := made(t, window, have)
			stands(t, s, have)
			for index := -1; index <= 34; index++ {
				o, ow := cloned(s, w)
				_, e := sameTake(t, o, ow, index, name(index))
				if may := index >= have && index < have+window && index < 32; may != (e == api.OK) {
					t.Errorf("New(%d, %d): Take(%d): %v", window, have, index, e)
				}
			}
			sameEnd(t, s, w)
		}
	}
}

func TestP15_1WrongNumbers(t *testing.T) {
	refused := func(window, have int) {
		t.Helper()
		if s, e := stitch.New(window, have); s != nil || e != api.ErrStitchWindow {
			t.Errorf("New(%d, %d): %v, %v", window, have, s, e)
		}
	}
	for _, x := range append([]int{0, 9, 10, 16, 31, 32}, wrong...) {
		for _, have := range []int{-1, 0, 1, 8, 31, 32, 33, x} {
			refused(x, have)
		}
	}
	for _, x := range wrong {
		for _, window := range []int{0, 1, 2, 7, 8, 9, x} {
			refused(window, x)
		}
	}
}

// Up to 32 bytes, whichever they are; they are told as they came, at once or later.
func TestP15_2Texts(t *testing.T) {
	for n := 0; n <= 40; n++ {
		for _, of := range []string{"a", "\x00", "\xff", "\n"} {
			text := strings.Repeat(of, n)
			s, w := made(t, 2, 0)
			if n > 32 {
				takes(t, s, w, 1, text, api.ErrStitchText)
				takes(t, s, w, 0, text, api.ErrStitchText)
				stands(t, s, 0)
				continue
			}
			takes(t, s, w, 1, text, api.OK)
			takes(t, s, w, 0, text, api.OK, text, text)
			takes(t, s, w, 2, text, api.OK, text)
		}
	}
	for _, n := range []int{33, 64, 256, 257, 288, 1024, 65536, 65537, 1 << 20} {
		s, w := made(t, 1, 0)
		takes(t, s, w, 0, strings.Repeat("a", n), api.ErrStitchText)
	}
}

// Bytes count, not runes.
func TestP15_2BytesOfRunes(t *testing.T) {
	for n := range 40 {
		s, w := made(t, 1, 0)
		if _, e := sameTake(t, s, w, 0, strings.Repeat("ä", n)); (e == api.OK) != (n <= 16) {
			t.Errorf("Take of %d runes: %v", n, e)
		}
	}
}

// R2: a text that is too long is ErrStitchText, also where no text may come, or where one is held.
func TestP15_2TextAheadOfPlace(t *testing.T) {
	for have := 0; have <= 32; have++ {
		s, w := made(t, 4, have)
		sameTake(t, s, w, have+1, "held")
		for _, n := range []int{33, 34, 1000} {
			for _, index := range append([]int{have - 1, have, have + 1, have + 2, have + 3, have + 4, 31, 32}, wrong...) {
				takes(t, s, w, index, strings.Repeat("b", n), api.ErrStitchText)
			}
		}
		sameRest(t, s, w)
	}
}

// Every index around a window, wherever it stands, and numbers that no window has.
func TestP15_2EveryPlace(t *testing.T) {
	for window := 1; window <= 8; window++ {
		s, w := made(t, window, 0)
		for next := 0; next <= 32; next++ {
			stands(t, s, next)
			for index := -3; index <= 44; index++ {
				o, ow := cloned(s, w)
				_, e := sameTake(t, o, ow, index, name(index))
				if may := index >= next && index < next+window && index < 32; may && e != api.OK || !may && e != api.ErrStitchPlace {
					t.Fatalf("window %d, next %d: Take(%d): %v", window, next, index, e)
				}
			}
			for _, index := range wrong {
				takes(t, s, w, index, name(index), api.ErrStitchPlace)
			}
			if next < 32 {
				takes(t, s, w, next, name(next), api.OK, name(next))
			}
		}
	}
}

// The first text that comes of a number stays, whatever comes behind it, and however often.
func TestP15_2FirstStays(t *testing.T) {
	for window := 2; window <= 8; window++ {
		for index := 1; index < window; index++ {
			s, w := made(t, window, 0)
			takes(t, s, w, index, "first", api.OK)
			for _, text := range []string{"second", "", "first", strings.Repeat("x", 32)} {
				takes(t, s, w, index, text, api.OK)
				stands(t, s, 0, index)
			}
			for i := range index - 1 {
				takes(t, s, w, i, name(i), api.OK, name(i))
				takes(t, s, w, index, "later", api.OK)
			}
			takes(t, s, w, index-1, "ahead", api.OK, "ahead", "first")
			takes(t, s, w, index, "second", api.ErrStitchPlace)
		}
	}
}

// An empty text is a text: it is held, it stays, and it is handed on.
func TestP15_2EmptyTexts(t *testing.T) {
	s, w := made(t, 4, 0)
	takes(t, s, w, 2, "", api.OK)
	stands(t, s, 0, 2)
	takes(t, s, w, 2, "x", api.OK)
	takes(t, s, w, 0, "", api.OK, "")
	takes(t, s, w, 3, "d", api.OK)
	takes(t, s, w, 1, "", api.OK, "", "", "d")
	stands(t, s, 4)
}

// Texts that are the same bytes are texts of their own.
func TestP15_2SameTextTwice(t *testing.T) {
	s, w := made(t, 3, 0)
	takes(t, s, w, 2, "x", api.OK)
	takes(t, s, w, 1, "x", api.OK)
	stands(t, s, 0, 1, 2)
	takes(t, s, w, 0, "x", api.OK, "x", "x", "x")
}

// Just as far as nothing is missing: what is behind a gap stays held.
func TestP15_2Gaps(t *testing.T) {
	for window := 2; window <= 8; window++ {
		for gap := 1; gap < window; gap++ {
			s, w := made(t, window, 5)
			var before, behind []string
			for i := window - 1; i > 0; i-- {
				if i != gap {
					takes(t, s, w, 5+i, name(i), api.OK)
				}
			}
			for i := range window {
				if i < gap {
					before = append(before, name(i))
				} else {
					behind = append(behind, name(i))
				}
			}
			takes(t, s, w, 5, name(0), api.OK, before...)
			takes(t, s, w, 5+gap, name(gap), api.OK, behind...)
			stands(t, s, 5+window)
		}
	}
}

// A whole window comes from its end on, and is handed on at once; so it goes to the stream's end.
func TestP15_2BackwardsToTheEnd(t *testing.T) {
	for window := 1; window <= 8; window++ {
		for have := 0; have <= 32; have++ {
			s, w := made(t, window, have)
			for s.Next() < 32 {
				from, to := s.Next(), min(s.Next()+window, 32)
				var all []string
				for i := from; i < to; i++ {
					all = append(all, name(i))
				}
				for i := to - 1; i > from; i-- {
					takes(t, s, w, i, name(i), api.OK)
				}
				takes(t, s, w, from, name(from), api.OK, all...)
			}
			stands(t, s, 32)
			for index := range 42 {
				takes(t, s, w, index, "x", api.ErrStitchPlace)
			}
		}
	}
}

// R2: what is refused changes nothing, nor do the texts that are held.
func TestR2Refused(t *testing.T) {
	for seed := range int64(60) {
		rnd := rand.New(rand.NewSource(seed))
		s, w := made(t, 1+rnd.Intn(8), rnd.Intn(33))
		for range 120 {
			anyTake(t, s, w, rnd)
			o, ow := cloned(s, w)
			for _, index := range wrong {
				takes(t, o, ow, index, "x", api.ErrStitchPlace)
			}
			takes(t, o, ow, w.next(), strings.Repeat("x", 33), api.ErrStitchText)
			takes(t, o, ow, w.next()-1, "x", api.ErrStitchPlace)
			takes(t, o, ow, w.next()+w.window, "x", api.ErrStitchPlace)
			sameRest(t, o, ow)
		}
		sameEnd(t, s, w)
	}
}

// anyTake takes a text at both; now and then one that is refused, mostly one that is not next.
func anyTake(t *testing.T, s *stitch.Window, w *words, rnd *rand.Rand) {
	t.Helper()
	text := strings.Repeat(string(rune('a'+rnd.Intn(26))), rnd.Intn(5))
	switch k := rnd.Intn(20); {
	case k == 0:
		sameTake(t, s, w, wrong[rnd.Intn(len(wrong))], text)
	case k == 1:
		sameTake(t, s, w, s.Next(), strings.Repeat("a", 31+rnd.Intn(4)))
	case k < 5:
		sameTake(t, s, w, s.Next(), text)
	default:
		sameTake(t, s, w, s.Next()-1+rnd.Intn(10), text)
	}
}

// The numbers rise, in whatever order the texts came.
func TestP15_3HeldRises(t *testing.T) {
	for seed := range int64(200) {
		rnd := rand.New(rand.NewSource(seed))
		have := rnd.Intn(25)
		s, w := made(t, 8, have)
		for _, i := range rnd.Perm(7) {
			takes(t, s, w, have+1+i, name(i), api.OK)
			if !slices.IsSorted(s.Held()) {
				t.Fatalf("Held: %v", s.Held())
			}
		}
		stands(t, s, have, have+1, have+2, have+3, have+4, have+5, have+6, have+7)
	}
}

// The questions change nothing.
func TestP15_3Questions(t *testing.T) {
	s, w := made(t, 4, 0)
	for _, index := range []int{2, 3, 0, 1, 5} {
		sameTake(t, s, w, index, name(index))
		for range 3 {
			sameAnswers(t, s, w)
			s.Clone().Take(s.Next(), "x")
		}
		sameRest(t, s, w)
	}
}

// What is answered is new memory, spare room too: whatever is written there, nothing else changes.
func TestR4Answers(t *testing.T) {
	for seed := range int64(100) {
		rnd := rand.New(rand.NewSource(seed))
		s, w := made(t, 1+rnd.Intn(8), rnd.Intn(20))
		var kept, told [][]string
		for range 150 {
			index, text := s.Next()+rnd.Intn(8), name(rnd.Intn(100))
			got, _ := sameTake(t, s, w, index, text)
			if rnd.Intn(2) == 0 {
				scribble(got, "scribble")
			} else {
				kept, told = append(kept, got), append(told, slices.Clone(got))
			}
			first, second := s.Held(), s.Held()
			scribble(first, -7)
			if !slices.Equal(second, w.held()) {
				t.Fatalf("Held: %v, not %v", second, w.held())
			}
			scribble(second, 1)
			sameAnswers(t, s, w)
			sameRest(t, s, w)
		}
		for i := range kept {
			if !slices.Equal(kept[i], told[i]) {
				t.Fatalf("%q became %q", told[i], kept[i])
			}
		}
		sameEnd(t, s, w)
	}
}

// scribble writes over a list and the room behind it.
func scribble[T any](l []T, x T) {
	l = l[:cap(l)]
	for i := range l {
		l[i] = x
	}
}

// Of one text on, a clone and its object go apart: neither sees what came at the other.
func TestR7Apart(t *testing.T) {
	for window := 1; window <= 8; window++ {
		for subset := range 1 << (window - 1) {
			s, w := made(t, window, 3)
			for i := 1; i < window; i++ {
				if subset>>(i-1)&1 > 0 {
					takes(t, s, w, 3+i, name(i), api.OK)
				}
			}
			for index := 3; index < 3+window; index++ {
				a, aw := cloned(s, w)
				b, bw := cloned(a, aw)
				sameTake(t, a, aw, index, "of the one")
				sameAnswers(t, b, bw)
				sameTake(t, b, bw, index, "of the other")
				sameRest(t, a, aw)
				sameRest(t, b, bw)
			}
			sameRest(t, s, w)
		}
	}
}

// Clones of clones that walk apart.
func TestR7WalkApart(t *testing.T) {
	for seed := range int64(150) {
		rnd := rand.New(rand.NewSource(seed))
		s, w := made(t, 1+rnd.Intn(8), rnd.Intn(12))
		stitchers, tellings := []*stitch.Window{s}, []*words{w}
		for range 200 {
			k := rnd.Intn(len(stitchers))
			if rnd.Intn(12) == 0 && len(stitchers) < 8 {
				o, ow := cloned(stitchers[k], tellings[k])
				stitchers, tellings = append(stitchers, o), append(tellings, ow)
			}
			anyTake(t, stitchers[k], tellings[k], rnd)
		}
		for i := range stitchers {
			sameAnswers(t, stitchers[i], tellings[i])
			sameEnd(t, stitchers[i], tellings[i])
		}
	}
}
