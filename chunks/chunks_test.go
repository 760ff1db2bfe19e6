package chunks_test

import (
	"math"
	"math/rand"
	"slices"
	"strings"
	"testing"

	"gaffer/api"
	"gaffer/chunks"
)

const top = 1 << 40

// wrong are numbers that nothing here has.
var wrong = []int{-1, -2, -8, -16, -32, 257, 1<<32 + 1, 1<<32 + 2, top, top + 1, -top, math.MinInt, math.MinInt + 1, math.MaxInt - 1, math.MaxInt}

func item(i int) chunks.Item { return chunks.Item{Index: i, Text: name(i)} }

// says holds what is due against the numbers that should be.
func says(t *testing.T, s *chunks.Sender, w *words, numbers ...int) {
	t.Helper()
	var want []chunks.Item
	for _, i := range numbers {
		want = append(want, item(i))
	}
	if got := sameDue(t, s, w); !slices.Equal(got, want) {
		t.Fatalf("Due: %v, not %v", got, want)
	}
}

func TestNumbers(t *testing.T) {
	if api.ErrChunksWindow != 140 || api.ErrChunksFull != 141 || api.ErrChunksText != 142 ||
		api.MaxWindow != 8 || api.MaxResend != 16 || api.MaxChunks != 32 || api.MaxText != 32 {
		t.Error("numbers of api")
	}
}

// The chapter's table of examples, call by call.
func TestP14Examples(t *testing.T) {
	for _, x := range [][2]int{{0, 1}, {9, 1}, {1, 0}, {1, 17}} {
		if s, e := chunks.New(x[0], x[1]); s != nil || e != api.ErrChunksWindow {
			t.Errorf("New(%d, %d): %v, %v", x[0], x[1], s, e)
		}
	}
	s, w := made(t, 2, 3)
	for i, room := range []bool{true, false, false} {
		if e := samePut(t, s, w, name(i)); e != api.OK || s.Room() != room {
			t.Errorf("Put %d: %v, %v", i, e, s.Room())
		}
	}
	if s.Len() != 3 {
		t.Errorf("Len: %d", s.Len())
	}
	says(t, s, w, 0, 1)
	says(t, s, w)
	sameTick(t, s, w)
	says(t, s, w)
	if s.Timer() != 2 {
		t.Errorf("Timer: %d", s.Timer())
	}
	if sameAck(t, s, w, 0) || sameAck(t, s, w, 3) || !sameAck(t, s, w, 1) {
		t.Error("Ack")
	}
	says(t, s, w, 2)
	if s.Timer() != 2 {
		t.Errorf("Timer: %d", s.Timer())
	}
	sameTick(t, s, w)
	sameTick(t, s, w)
	says(t, s, w, 1, 2)
	if s.Timer() != 3 {
		t.Errorf("Timer: %d", s.Timer())
	}
	if !sameAck(t, s, w, 3) || s.Timer() != 0 {
		t.Errorf("Ack(3): Timer %d", s.Timer())
	}
	says(t, s, w)
	if sameAck(t, s, w, 3) || !s.Room() {
		t.Error("Ack(3) again")
	}
	if e := samePut(t, s, w, strings.Repeat("a", 33)); e != api.ErrChunksText {
		t.Errorf("Put of 33 bytes: %v", e)
	}
	putMore(t, s, w, 29)
	if e := samePut(t, s, w, "x"); e != api.ErrChunksFull {
		t.Errorf("the 33rd text: %v", e)
	}
}

func TestP14_1EveryWindowAndResend(t *testing.T) {
	for window := 1; window <= 8; window++ {
		for resend := 1; resend <= 16; resend++ {
			s, w := made(t, window, resend)
			if s.Len() != 0 || s.Acked() != 0 || s.Said() != 0 || s.Timer() != 0 || !s.Room() {
				t.Errorf("New(%d, %d) has something", window, resend)
			}
			says(t, s, w)
			putMore(t, s, w, 10)
			if got := sameDue(t, s, w); len(got) != window || s.Timer() != resend {
				t.Errorf("New(%d, %d): %v, Timer %d", window, resend, got, s.Timer())
			}
		}
	}
}

func TestP14_1WrongNumbers(t *testing.T) {
	refused := func(window, resend int) {
		t.Helper()
		if s, e := chunks.New(window, resend); s != nil || e != api.ErrChunksWindow {
			t.Errorf("New(%d, %d): %v, %v", window, resend, s, e)
		}
	}
	for _, x := range append([]int{0, 9, 10, 16}, wrong...) {
		for _, resend := range []int{0, 1, 2, 8, 16, 17, x} {
			refused(x, resend)
		}
	}
	for _, x := range append([]int{0, 17, 18, 32}, wrong...) {
		for _, window := range []int{0, 1, 2, 8, 9, x} {
			refused(window, x)
		}
	}
}

// Up to 32 bytes, whichever they are; they are told as they were put.
func TestP14_2Texts(t *testing.T) {
	for n := 0; n <= 40; n++ {
		for _, of := range []string{"a", "\x00", "\xff", "\n"} {
			s, w := made(t, 1, 1)
			text := strings.Repeat(of, n)
			e := samePut(t, s, w, text)
			if (e == api.OK) != (n <= 32) || e != api.OK && e != api.ErrChunksText {
				t.Errorf("Put of %d bytes: %v", n, e)
			}
			if got := sameDue(t, s, w); n <= 32 && !slices.Equal(got, []chunks.Item{{Index: 0, Text: text}}) {
				t.Errorf("Due: %v", got)
			}
		}
	}
	for _, n := range []int{33, 64, 256, 257, 288, 1024, 65536, 65537, 1 << 20} {
		s, w := made(t, 1, 1)
		if e := samePut(t, s, w, strings.Repeat("a", n)); e != api.ErrChunksText {
			t.Errorf("Put of %d bytes: %v", n, e)
		}
	}
}

// Bytes count, not runes.
func TestP14_2BytesOfRunes(t *testing.T) {
	for n := range 40 {
		s, w := made(t, 1, 1)
		if e := samePut(t, s, w, strings.Repeat("ä", n)); (e == api.OK) != (n <= 16) {
			t.Errorf("Put of %d runes: %v", n, e)
		}
	}
}

// As many as may be, acked or not: those that are acked are texts too.
func TestP14_2Full(t *testing.T) {
	for acked := 0; acked <= 32; acked++ {
		s, w := made(t, 8, 2)
		for i := range 32 {
			putMore(t, s, w, 1)
			sameDue(t, s, w)
			if i < acked {
				sameAck(t, s, w, i+1)
			}
		}
		for range 2 {
			if e := samePut(t, s, w, "x"); e != api.ErrChunksFull {
				t.Errorf("%d acked: the 33rd: %v", acked, e)
			}
			if e := samePut(t, s, w, ""); e != api.ErrChunksFull {
				t.Errorf("%d acked: the 33rd: %v", acked, e)
			}
		}
		sameRest(t, s, w)
	}
}

// R2: a text that is too long is ErrChunksText, also where there is no place for any.
func TestP14_2TextAheadOfFull(t *testing.T) {
	for texts := 0; texts <= 32; texts++ {
		s, w := filled(t, 3, 2, texts)
		for _, n := range []int{33, 34, 1000} {
			if e := samePut(t, s, w, strings.Repeat("b", n)); e != api.ErrChunksText {
				t.Errorf("%d texts: Put of %d bytes: %v", texts, n, e)
			}
		}
		sameRest(t, s, w)
	}
}

// Room is asked of what is not acked, said or not.
func TestP14_2Room(t *testing.T) {
	for window := 1; window <= 8; window++ {
		for texts := 0; texts <= 32; texts++ {
			s, w := filled(t, window, 1, texts)
			for {
				if s.Room() != (texts-s.Acked() < window) {
					t.Fatalf("window %d, %d texts, %d acked: Room %v", window, texts, s.Acked(), s.Room())
				}
				sameDue(t, s, w)
				if !sameAck(t, s, w, s.Acked()+1) {
					break
				}
			}
			if s.Acked() != texts {
				t.Fatalf("window %d: %d of %d acked", window, s.Acked(), texts)
			}
		}
	}
}

// What is put beyond the room waits: it is said when acks have made room, each text once.
func TestP14_2MoreThanRoom(t *testing.T) {
	for window := 1; window <= 8; window++ {
		s, w := filled(t, window, 5, 32)
		told := 0
		for s.Acked() < 32 {
			for _, x := range sameDue(t, s, w) {
				if x != item(told) {
					t.Fatalf("window %d: %v, not %v", window, x, item(told))
				}
				told++
			}
			sameAck(t, s, w, s.Acked()+1)
		}
		if told != 32 {
			t.Errorf("window %d: %d texts were told", window, told)
		}
	}
}

// Texts that are the same bytes are texts of their own.
func TestP14_2SameTextTwice(t *testing.T) {
	s, w := made(t, 4, 2)
	for _, text := range []string{"x", "x", "", ""} {
		samePut(t, s, w, text)
	}
	if got := sameDue(t, s, w); !slices.Equal(got, []chunks.Item{{0, "x"}, {1, "x"}, {2, ""}, {3, ""}}) {
		t.Errorf("Due: %v", got)
	}
	sameAck(t, s, w, 1)
	sameTick(t, s, w)
	sameTick(t, s, w)
	if got := sameDue(t, s, w); !slices.Equal(got, []chunks.Item{{1, "x"}, {2, ""}, {3, ""}}) {
		t.Errorf("Due: %v", got)
	}
}

// A timer of 0 stays so, however many ticks there are.
func TestP14_3TickAtNought(t *testing.T) {
	s, w := filled(t, 2, 3, 1)
	for range 50 {
		sameTick(t, s, w)
		if s.Timer() != 0 {
			t.Fatalf("Timer: %d", s.Timer())
		}
	}
	says(t, s, w, 0)
	for left := 3; left >= 0; left-- {
		if s.Timer() != left {
			t.Fatalf("Timer: %d, not %d", s.Timer(), left)
		}
		sameTick(t, s, w)
	}
	sameTick(t, s, w)
	says(t, s, w, 0)
}

// Nothing is due of a window without items: the timer is not set then, and what is put next is said at once.
func TestP14_3NothingDue(t *testing.T) {
	s, w := made(t, 2, 16)
	says(t, s, w)
	if s.Timer() != 0 || s.Said() != 0 {
		t.Errorf("Timer %d, Said %d", s.Timer(), s.Said())
	}
	putMore(t, s, w, 1)
	says(t, s, w, 0)
	sameAck(t, s, w, 1)
	says(t, s, w)
	if s.Timer() != 0 || s.Said() != 1 {
		t.Errorf("Timer %d, Said %d", s.Timer(), s.Said())
	}
	putMore(t, s, w, 1)
	says(t, s, w, 1)
}

// With a timer that runs only what was never said is due, and the timer goes on; when it has run out, all of the window is.
func TestP14_3TimerThatRuns(t *testing.T) {
	for resend := 1; resend <= 16; resend++ {
		for at := range resend {
			s, w := filled(t, 8, resend, 2)
			says(t, s, w, 0, 1)
			for range at {
				sameTick(t, s, w)
				says(t, s, w)
			}
			putMore(t, s, w, 2)
			says(t, s, w, 2, 3)
			if s.Timer() != resend-at || s.Said() != 4 {
				t.Fatalf("resend %d, %d ticks: Timer %d, Said %d", resend, at, s.Timer(), s.Said())
			}
			says(t, s, w)
			for range resend - at {
				says(t, s, w)
				sameTick(t, s, w)
			}
			putMore(t, s, w, 1) // never said, and as due as the others
			says(t, s, w, 0, 1, 2, 3, 4)
			if s.Timer() != resend {
				t.Fatalf("resend %d: Timer %d", resend, s.Timer())
			}
		}
	}
}

// A timer that has run out, and acks then: what is said is the window as it stands, from acked on.
func TestP14_3BehindAnAck(t *testing.T) {
	s, w := filled(t, 3, 2, 6)
	says(t, s, w, 0, 1, 2)
	sameTick(t, s, w)
	sameTick(t, s, w)
	sameAck(t, s, w, 2)
	if s.Timer() != 0 || s.Said() != 3 {
		t.Errorf("Timer %d, Said %d", s.Timer(), s.Said())
	}
	says(t, s, w, 2, 3, 4)
	if s.Timer() != 2 || s.Said() != 5 {
		t.Errorf("Timer %d, Said %d", s.Timer(), s.Said())
	}
}

// Said never falls: what is said anew counts no more.
func TestP14_3SaidAnew(t *testing.T) {
	s, w := filled(t, 2, 1, 2)
	for range 5 {
		says(t, s, w, 0, 1)
		if s.Said() != 2 {
			t.Fatalf("Said: %d", s.Said())
		}
		sameTick(t, s, w)
	}
}

// Every count at every place of a stream: from acked on, up to what was said.
func TestP14_4EveryCount(t *testing.T) {
	for window := 1; window <= 8; window++ {
		for acked := 0; acked <= 10; acked++ {
			for count := -2; count <= 14; count++ {
				s, w := filled(t, window, 3, 12)
				for s.Acked() < acked {
					sameDue(t, s, w)
					sameAck(t, s, w, s.Acked()+1)
				}
				sameTick(t, s, w)
				sameDue(t, s, w)
				said := min(acked+window, 12)
				if got := sameAck(t, s, w, count); got != (count > acked && count <= said) {
					t.Fatalf("window %d, %d acked, %d said: Ack(%d): %v", window, acked, said, count, got)
				}
				sameRest(t, s, w)
			}
		}
	}
}

// Beyond what was said nothing is acked, though it was put; nor is what no stream has.
func TestP14_4WrongCounts(t *testing.T) {
	for texts := 0; texts <= 32; texts++ {
		for _, said := range []bool{false, true} {
			s, w := filled(t, 8, 2, texts)
			if said {
				sameDue(t, s, w)
			}
			for _, count := range append([]int{0, 33, 64, s.Said() + 1, texts + 1}, wrong...) {
				if sameAck(t, s, w, count) {
					t.Fatalf("%d texts, %d said: Ack(%d)", texts, s.Said(), count)
				}
			}
			sameRest(t, s, w)
		}
	}
}

// The timer is 0 when all texts are acked; not when all that were said are, nor all of a window.
func TestP14_4Timer(t *testing.T) {
	s, w := filled(t, 2, 5, 3)
	says(t, s, w, 0, 1)
	sameTick(t, s, w)
	if !sameAck(t, s, w, 2) || s.Timer() != 4 {
		t.Errorf("Timer: %d", s.Timer())
	}
	says(t, s, w, 2)
	if s.Timer() != 4 {
		t.Errorf("Timer: %d", s.Timer())
	}
	putMore(t, s, w, 1)
	if !sameAck(t, s, w, 3) || s.Timer() != 4 { // one is left that waits
		t.Errorf("Timer: %d", s.Timer())
	}
	for range 4 {
		sameTick(t, s, w)
	}
	says(t, s, w, 3)
	if s.Timer() != 5 {
		t.Errorf("Timer: %d", s.Timer())
	}
	if !sameAck(t, s, w, 4) || s.Timer() != 0 {
		t.Errorf("Timer: %d", s.Timer())
	}
}

// A refused ack leaves the timer as it is.
func TestP14_4RefusedAck(t *testing.T) {
	s, w := filled(t, 2, 5, 2)
	says(t, s, w, 0, 1)
	sameAck(t, s, w, 1)
	for _, count := range append([]int{0, 1, 3}, wrong...) {
		if sameAck(t, s, w, count) || s.Timer() != 5 || s.Acked() != 1 {
			t.Fatalf("Ack(%d): Timer %d, Acked %d", count, s.Timer(), s.Acked())
		}
	}
}

// The questions change nothing.
func TestP14_5Questions(t *testing.T) {
	s, w := filled(t, 2, 3, 4)
	for range 3 {
		sameDue(t, s, w)
		for range 3 {
			sameAnswers(t, s, w)
			s.Clone().Due()
		}
		sameAck(t, s, w, s.Acked()+1)
	}
}

// What is answered is new memory, spare room too: whatever is written there, the texts stay.
func TestR4Due(t *testing.T) {
	for texts := 0; texts <= 12; texts++ {
		for acked := 0; acked <= texts; acked++ {
			s, w := filled(t, 8, 1, texts)
			for s.Acked() < acked {
				scribble(sameDue(t, s, w))
				sameAck(t, s, w, s.Acked()+1)
			}
			a := s.Clone()
			for range 3 {
				kept := s.Due()
				told := slices.Clone(kept)
				w.due()
				scribble(s.Clone().Due())
				sameTick(t, s, w)
				scribble(s.Clone().Due())
				putBoth := s.Clone()
				putBoth.Put("z")
				scribble(putBoth.Due())
				if !slices.Equal(kept, told) {
					t.Fatalf("%v became %v", told, kept)
				}
				scribble(kept)
			}
			sameRest(t, s, w)
			for _, x := range a.Due() {
				if x != item(x.Index) {
					t.Fatalf("%v, not %v", x, item(x.Index))
				}
			}
		}
	}
}

// scribble writes over a list and the room behind it.
func scribble(l []chunks.Item) {
	l = l[:cap(l)]
	for i := range l {
		l[i] = chunks.Item{Index: -7, Text: "scribble"}
	}
}

// Clones at every length of the stream, then texts put into each of them, in either order: nobody sees the others'.
func TestR7PutsApart(t *testing.T) {
	for texts := 0; texts <= 28; texts++ {
		for _, acked := range []int{0, 1, texts} {
			for order := range 6 {
				s, w := filled(t, 8, 2, texts)
				for s.Acked() < min(acked, texts) {
					sameDue(t, s, w)
					sameAck(t, s, w, s.Acked()+1)
				}
				a, aw := s.Clone(), w.clone()
				b, bw := a.Clone(), aw.clone()
				senders := []*chunks.Sender{s, a, b}
				tellings := []*words{w, aw, bw}
				for n := range 9 {
					who := []int{n % 3, (n + 1) % 3, 2 - n%3, n / 3, (n/3 + 1) % 3, 2 - n/3}[order]
					if len(tellings[who].letters) < 32 {
						samePut(t, senders[who], tellings[who], string(rune('A'+10*who+n)))
					}
				}
				for i := range senders {
					sameRest(t, senders[i], tellings[i])
				}
			}
		}
	}
}

// Clones of clones that walk apart.
func TestR7WalkApart(t *testing.T) {
	for seed := range int64(150) {
		rnd := rand.New(rand.NewSource(seed))
		s, w := made(t, 1+rnd.Intn(8), 1+rnd.Intn(6))
		senders, tellings := []*chunks.Sender{s}, []*words{w}
		for range 300 {
			k := rnd.Intn(len(senders))
			if rnd.Intn(12) == 0 && len(senders) < 8 {
				senders, tellings = append(senders, senders[k].Clone()), append(tellings, tellings[k].clone())
			}
			anyCall(t, senders[k], tellings[k], rnd)
		}
		for i := range senders {
			sameAnswers(t, senders[i], tellings[i])
			sameRest(t, senders[i], tellings[i])
		}
	}
}

// anyCall does one call to both; now and then one that is refused.
func anyCall(t *testing.T, s *chunks.Sender, w *words, rnd *rand.Rand) {
	t.Helper()
	switch k := rnd.Intn(20); {
	case k < 4:
		samePut(t, s, w, strings.Repeat(string(rune('a'+rnd.Intn(26))), rnd.Intn(4)))
	case k == 4:
		samePut(t, s, w, strings.Repeat("a", 30+rnd.Intn(6)))
	case k < 9:
		sameTick(t, s, w)
	case k < 15:
		sameDue(t, s, w)
	case k == 15:
		sameAck(t, s, w, wrong[rnd.Intn(len(wrong))])
	default:
		sameAck(t, s, w, s.Acked()-1+rnd.Intn(6))
	}
}
