package session_test

import (
	"math"
	"math/rand"
	"slices"
	"strings"
	"testing"

	"gaffer/api"
	"gaffer/session"
)

var (
	badSlots   = []int{-1, -2, -8, 8, 9, 256, 1 << 32, top, math.MinInt, math.MaxInt}
	badNumbers = []int{0, -1, -7, -top, top + 1, top + 7, 2 * top, math.MinInt, math.MaxInt} // of lives and sessions
)

// The chapter's table of examples, the table's rows, call by call.
func TestP13TableExamples(t *testing.T) {
	if x, e := session.NewTable(9); x != nil || e != api.ErrSessionSlot {
		t.Errorf("NewTable(9): %v, %v", x, e)
	}
	x, _ := madeTable(t, 2)
	hello := func(slot, life, want, number int) {
		t.Helper()
		if what, s := x.Hello(slot, life); what != want || s != number {
			t.Errorf("Hello(%d, %d): %d, %d", slot, life, what, s)
		}
	}
	ask := func(life, number, n, want int, text string) {
		t.Helper()
		if what, reply := x.Ask(0, life, number, n); what != want || reply != text {
			t.Errorf("Ask(0, %d, %d, %d): %d, %q", life, number, n, what, reply)
		}
	}
	hello(0, 1, session.Fresh, 0)
	hello(2, 1, session.Old, 0)
	hello(0, 0, session.Old, 0)
	if e := x.Open(0, 1, 7); e != api.OK {
		t.Errorf("Open: %v", e)
	}
	hello(0, 1, session.Known, 7)
	hello(0, 2, session.Fresh, 0)
	ask(1, 7, 1, session.New, "")
	ask(1, 7, 0, session.Pass, "")
	ask(1, 8, 1, session.Stale, "")
	if e := x.Answer(0, "a"); e != api.OK {
		t.Errorf("Answer: %v", e)
	}
	ask(1, 7, 1, session.Again, "a")
	ask(1, 7, 2, session.New, "")
	ask(1, 7, 3, session.Pass, "")
	if e := x.Open(0, 3, 9); e != api.OK {
		t.Errorf("Open: %v", e)
	}
	hello(0, 2, session.Old, 0)
	if e := x.Open(0, 2, 10); e != api.ErrSessionNone {
		t.Errorf("Open: %v", e)
	}
	ask(1, 7, 2, session.Stale, "")
	if l := x.Rows(); !slices.Equal(l, []api.Desk{{Slot: 0, Life: 3, Session: 9}}) {
		t.Errorf("Rows: %+v", l)
	}
}

func TestP13_6EveryNumberOfSlots(t *testing.T) {
	for slots := 1; slots <= 8; slots++ {
		x, w := madeTable(t, slots)
		sameTable(t, x, w)
		for slot := -1; slot <= 8; slot++ {
			want := [3]api.Errno{api.ErrSessionSlot, api.ErrSessionSlot, api.ErrSessionSlot}
			if slot >= 0 && slot < slots {
				want = [3]api.Errno{api.ErrSessionNone, api.OK, api.OK}
			}
			if got := [3]api.Errno{sameAnswer(t, x, w, slot, "a"), sameOpen(t, x, w, slot, 1, 1), sameAnswer(t, x, w, slot, "b")}; got != want {
				t.Errorf("%d slots, slot %d: %v", slots, slot, got)
			}
		}
		sameTable(t, x, w)
		if l := x.Rows(); len(l) != slots {
			t.Errorf("%d rows of %d slots", len(l), slots)
		}
	}
}

func TestP13_6WrongNumberOfSlots(t *testing.T) {
	for _, slots := range []int{0, -1, -8, 9, 10, 16, 1<<32 + 1, top, math.MinInt, math.MaxInt} {
		if x, e := session.NewTable(slots); x != nil || e != api.ErrSessionSlot {
			t.Errorf("NewTable(%d): %v, %v", slots, x, e)
		}
	}
}

// Three slots: one without a row, two with rows.
func someTable(t *testing.T) (*session.Table, *tableWords) {
	t.Helper()
	x, w := madeTable(t, 3)
	sameOpen(t, x, w, 0, 4, 7)
	sameAnswer(t, x, w, 0, "a")
	sameAnswer(t, x, w, 0, "b")
	sameOpen(t, x, w, 2, 1, 3)
	return x, w
}

func TestP13_6Hello(t *testing.T) {
	x, w := someTable(t)
	for _, y := range []struct{ slot, life, want, number int }{
		{0, 1, session.Old, 0}, {0, 3, session.Old, 0}, {0, 4, session.Known, 7}, {0, 5, session.Fresh, 0}, {0, top, session.Fresh, 0},
		{1, 1, session.Fresh, 0}, {1, top, session.Fresh, 0},
		{2, 1, session.Known, 3}, {2, 2, session.Fresh, 0}, {3, 1, session.Old, 0}, {3, 4, session.Old, 0},
	} {
		if what, s := sameTableHello(t, x, w, y.slot, y.life); what != y.want || s != y.number {
			t.Errorf("Hello(%d, %d): %d, %d", y.slot, y.life, what, s)
		}
	}
	for _, slot := range badSlots {
		if what, s := sameTableHello(t, x, w, slot, 4); what != session.Old || s != 0 {
			t.Errorf("Hello(%d, 4): %d, %d", slot, what, s)
		}
	}
	for _, life := range badNumbers {
		for slot := range 3 {
			if what, s := sameTableHello(t, x, w, slot, life); what != session.Old || s != 0 {
				t.Errorf("Hello(%d, %d): %d, %d", slot, life, what, s)
			}
		}
	}
	sameTable(t, x, w)
}

// A slot that is none is told first, whatever the numbers.
func TestP13_6OpenErrors(t *testing.T) {
	x, w := someTable(t)
	for _, slot := range append([]int{3}, badSlots...) {
		for _, life := range []int{1, 0, top + 1} {
			for _, number := range []int{1, 0, top + 1} {
				if e := sameOpen(t, x, w, slot, life, number); e != api.ErrSessionSlot {
					t.Errorf("Open(%d, %d, %d): %v", slot, life, number, e)
				}
			}
		}
	}
	for slot := range 3 {
		for _, bad := range badNumbers {
			for _, good := range []int{1, 4, 5, 7, top} {
				if a, b := sameOpen(t, x, w, slot, bad, good), sameOpen(t, x, w, slot, good, bad); a != api.ErrSessionNone || b != api.ErrSessionNone {
					t.Errorf("slot %d, %d and %d: %v, %v", slot, bad, good, a, b)
				}
			}
		}
	}
	for life := 1; life <= 3; life++ {
		for _, number := range []int{1, 7, 8, top} {
			if e := sameOpen(t, x, w, 0, life, number); e != api.ErrSessionNone {
				t.Errorf("Open(0, %d, %d): %v", life, number, e)
			}
		}
	}
	sameTable(t, x, w)
}

// The life of the row, or any greater one, opens; so does any session, be it the same or a smaller one. Nothing of the row that was there is left, and the other slots' stay.
func TestP13_6Open(t *testing.T) {
	for _, life := range []int{4, 5, 6, 1<<32 + 4, top - 1, top} {
		for _, number := range []int{1, 6, 7, 8, 1<<32 + 7, top - 1, top} {
			x, w := someTable(t)
			if e := sameOpen(t, x, w, 0, life, number); e != api.OK {
				t.Errorf("Open(0, %d, %d): %v", life, number, e)
			}
			want := []api.Desk{{Slot: 0, Life: life, Session: number}, {Slot: 2, Life: 1, Session: 3}}
			if l := x.Rows(); !slices.Equal(l, want) {
				t.Errorf("Rows: %+v, not %+v", l, want)
			}
			sameTable(t, x, w)
			if what, s := sameTableHello(t, x, w, 0, life); what != session.Known || s != number {
				t.Errorf("Hello(0, %d): %d, %d", life, what, s)
			}
			if what, _ := sameTableAsk(t, x, w, 0, life, number, 2); what != session.Pass {
				t.Errorf("the old session's number: %d", what)
			}
			if what, _ := sameTableAsk(t, x, w, 0, life, number, 1); what != session.New {
				t.Errorf("the first number: %d", what)
			}
		}
	}
}

// Just the row's life and session, together, are not Stale; a slot without a row has no life 0 and no session 0.
func TestP13_7Stale(t *testing.T) {
	x, w := someTable(t)
	numbers := append([]int{1, 2, 3, 4, 5, 6, 7, 8, top}, badNumbers...)
	for _, slot := range append([]int{0, 1, 2, 3}, badSlots...) {
		for _, life := range numbers {
			for _, number := range numbers {
				for _, n := range []int{0, 1, 2, 3} {
					what, reply := sameTableAsk(t, x, w, slot, life, number, n)
					known := [3]int{slot, life, number} == [3]int{0, 4, 7} || [3]int{slot, life, number} == [3]int{2, 1, 3}
					if (what == session.Stale) == known || what == session.Stale && reply != "" {
						t.Errorf("Ask(%d, %d, %d, %d): %d, %q", slot, life, number, n, what, reply)
					}
				}
			}
		}
	}
	sameTable(t, x, w)
}

// Every number about the last one, as requests come: the last again, the next new, no other one, and 0 never.
func TestP13_7EveryNumber(t *testing.T) {
	x, w := madeTable(t, 1)
	sameOpen(t, x, w, 0, 1, 7)
	replies := []string{""}
	for last := range 40 {
		numbers := []int{-1, -last, 1<<32 + last, top, top + 1, math.MinInt, math.MaxInt}
		for n := -1; n <= last+3; n++ {
			numbers = append(numbers, n)
		}
		for _, n := range numbers {
			want, text := session.Pass, ""
			if n == last && n > 0 {
				want, text = session.Again, replies[last]
			}
			if n == last+1 {
				want = session.New
			}
			for range 2 { // it changes nothing
				if what, reply := sameTableAsk(t, x, w, 0, 1, 7, n); what != want || reply != text {
					t.Fatalf("behind %d: Ask of %d: %d, %q", last, n, what, reply)
				}
			}
		}
		reply := strings.Repeat("r", last%7)
		if e := sameAnswer(t, x, w, 0, reply); e != api.OK {
			t.Fatalf("Answer: %v", e)
		}
		replies = append(replies, reply)
	}
}

// A reply is any text: none, bytes that are no runes, more than a message may have.
func TestP13_7AnyReply(t *testing.T) {
	x, w := madeTable(t, 2)
	sameOpen(t, x, w, 1, 2, 5)
	for i, text := range []string{"", "\x00", "\xff\xfe", "a\nb", "ä", strings.Repeat("\x80", 5000), "", strings.Repeat("ab", 1<<20)} {
		if e := sameAnswer(t, x, w, 1, text); e != api.OK {
			t.Errorf("Answer: %v", e)
		}
		if what, reply := sameTableAsk(t, x, w, 1, 2, 5, i+1); what != session.Again || reply != text {
			t.Errorf("reply %d: %d", i, what)
		}
		if l := x.Rows(); len(l) != 1 || l[0] != (api.Desk{Slot: 1, Life: 2, Session: 5, Last: i + 1, Reply: text}) {
			t.Errorf("row %d", i)
		}
	}
}

func TestP13_7AnswerErrors(t *testing.T) {
	x, w := someTable(t)
	for _, slot := range append([]int{3}, badSlots...) {
		if e := sameAnswer(t, x, w, slot, "c"); e != api.ErrSessionSlot {
			t.Errorf("Answer(%d): %v", slot, e)
		}
	}
	if e := sameAnswer(t, x, w, 1, "c"); e != api.ErrSessionNone {
		t.Errorf("Answer(1): %v", e)
	}
	sameTable(t, x, w)
}

// The last number that may be is answered, and none behind it, though its asking is still told New; what was answered is told again.
func TestP13_7TheLastNumber(t *testing.T) {
	x, w := madeTable(t, 2)
	sameOpen(t, x, w, 1, 1, 7)
	sameAnswer(t, x, w, 1, "first")
	x.SetLast(1, top-1)
	w.visits[1] = visit{life: 1, session: 7, skipped: top - 2, replies: []string{"first"}}
	sameTable(t, x, w)
	if e := sameAnswer(t, x, w, 1, "last"); e != api.OK {
		t.Fatalf("Answer: %v", e)
	}
	for range 2 {
		if e := sameAnswer(t, x, w, 1, "more"); e != api.ErrSessionNone {
			t.Fatalf("behind the last one: %v", e)
		}
		if what, reply := sameTableAsk(t, x, w, 1, 1, 7, top); what != session.Again || reply != "last" {
			t.Fatalf("the last one: %d, %q", what, reply)
		}
		if what, _ := sameTableAsk(t, x, w, 1, 1, 7, top+1); what != session.New {
			t.Fatalf("one more: %d", what)
		}
		if what, _ := sameTableAsk(t, x, w, 1, 1, 7, top-1); what != session.Pass {
			t.Fatalf("one less: %d", what)
		}
		sameTable(t, x, w)
	}
	sameOpen(t, x, w, 1, 1, 8)
	if e := sameAnswer(t, x, w, 1, "anew"); e != api.OK {
		t.Fatalf("in the next session: %v", e)
	}
	sameTable(t, x, w)
}

// Rows stand by their slots, whatever the order in which they were opened.
func TestP13_8RowsBySlots(t *testing.T) {
	for _, order := range [][]int{{0, 1, 2, 3, 4, 5, 6, 7}, {7, 6, 5, 4, 3, 2, 1, 0}, {5, 0, 7, 2}, {3}, {1, 6, 1, 4, 6}} {
		x, w := madeTable(t, 8)
		for i, slot := range order {
			sameOpen(t, x, w, slot, 1+i, 100-i)
			if i%2 == 0 {
				sameAnswer(t, x, w, slot, "x")
			}
		}
		if l := x.Rows(); !slices.IsSortedFunc(l, func(a, b api.Desk) int { return a.Slot - b.Slot }) {
			t.Errorf("Rows: %+v", l)
		}
		sameTable(t, x, w)
	}
}

// anyTableCall does one call to both; most numbers are about right.
func anyTableCall(t *testing.T, x *session.Table, w *tableWords, rnd *rand.Rand) {
	t.Helper()
	slot := rnd.Intn(w.slots+2) - 1
	v := w.visits[slot]
	life, number := v.life+rnd.Intn(3)-1, v.session+rnd.Intn(3)-1
	switch k := rnd.Intn(10); {
	case k < 2:
		sameOpen(t, x, w, slot, life, number)
	case k < 4:
		sameTableHello(t, x, w, slot, life)
	case k < 7:
		sameAnswer(t, x, w, slot, string(rune('a'+rnd.Intn(26))))
	default:
		if rnd.Intn(3) > 0 {
			life, number = v.life, v.session
		}
		sameTableAsk(t, x, w, slot, life, number, v.last()+rnd.Intn(4)-1)
	}
}

func TestP13_8Walks(t *testing.T) {
	for seed := range int64(100) {
		rnd := rand.New(rand.NewSource(seed))
		x, w := madeTable(t, 1+rnd.Intn(8))
		for range 200 {
			anyTableCall(t, x, w, rnd)
		}
		sameTable(t, x, w)
	}
}

// Clones at any place of a walk go their own ways; so do their clones.
func TestR7TableClones(t *testing.T) {
	type both struct {
		x *session.Table
		w *tableWords
	}
	for seed := range int64(30) {
		rnd := rand.New(rand.NewSource(seed))
		x, w := madeTable(t, 1+rnd.Intn(8))
		all := []both{{x, w}}
		for range 300 {
			at := all[rnd.Intn(len(all))]
			if rnd.Intn(15) == 0 && len(all) < 12 {
				all = append(all, both{at.x.Clone(), at.w.clone()})
			}
			anyTableCall(t, at.x, at.w, rnd)
			for _, y := range all {
				sameRows(t, y.x, y.w)
			}
		}
		for _, y := range all {
			sameTable(t, y.x, y.w)
		}
	}
}

// What Rows has answered is the caller's: to change it, or the room behind it, is seen nowhere, nor does a later call change it.
func TestR4RowsAreNewMemory(t *testing.T) {
	x, w := madeTable(t, 8)
	var kept, copies [][]api.Desk
	for slot := range 8 {
		sameOpen(t, x, w, slot, 1, 10+slot)
		sameAnswer(t, x, w, slot, "a")
		l := x.Rows()
		kept, copies = append(kept, l), append(copies, slices.Clone(l))
	}
	own := x.Clone()
	for slot := range 8 {
		sameAnswer(t, x, w, slot, "b")
	}
	for i := range kept {
		if !slices.Equal(kept[i], copies[i]) {
			t.Errorf("%+v became %+v", copies[i], kept[i])
		}
	}
	for i := range kept {
		room := kept[i][:cap(kept[i])]
		for j := range room {
			room[j] = api.Desk{Slot: -1}
		}
		for j := i + 1; j < len(kept); j++ {
			if !slices.Equal(kept[j], copies[j]) {
				t.Fatalf("%d and %d share memory", i, j)
			}
		}
		sameTable(t, x, w)
		if l := own.Rows(); !slices.Equal(l, copies[7]) {
			t.Fatalf("the clone's: %+v", l)
		}
	}
}

// Two tables, and two callers, have nothing in common.
func TestR5Apart(t *testing.T) {
	x, wx := madeTable(t, 2)
	y, wy := madeTable(t, 2)
	c, wc := madeCaller(t, 2)
	d, wd := madeCaller(t, 3)
	sameOpen(t, x, wx, 0, 1, 7)
	sameCallerHello(t, c, wc)
	sameDue(t, c, wc)
	sameTable(t, y, wy)
	sameCaller(t, d, wd)
	sameOpen(t, y, wy, 0, 2, 9)
	sameAnswer(t, y, wy, 0, "y")
	sameCallerHello(t, d, wd)
	sameHear(t, d, wd, welcome(1))
	sameTable(t, x, wx)
	sameCaller(t, c, wc)
	sameDue(t, c, wc)
}
