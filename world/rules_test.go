package world_test

import (
	"math"
	"slices"
	"strings"
	"testing"

	"gaffer/api"
	"gaffer/world"
)

// R1: whatever is handed in, both calls answer, and as the words do.
func TestR1Anything(t *testing.T) {
	t.Parallel()
	rnd := newRand(9)
	words := []string{"fleet", "submit fuel 9; halt", "bytes", "tick", "round", "settle", "inject", " ", " ", " ", "1", "40", "-", "0", "160", "\n", "\n", head, "\xff", "", "9223372036854775808"}
	for range 20000 {
		text := ""
		if rnd.Intn(2) == 0 {
			text = head
		}
		for range rnd.Intn(8) {
			text += words[rnd.Intn(len(words))]
		}
		runs(t, text)
		runs(t, anyText(rnd, 40))
	}
	far := []int{math.MinInt, math.MinInt + 1, -1, 0, 1, 14, 15, 1 << 32, 1 << 40, math.MaxInt}
	for range 20000 {
		lines(t, anyEvent(rnd, far[rnd.Intn(len(far))]))
	}
}

// R1: far more than may be is refused, and soon; a text of an event may have any length.
func TestR1FarTooMuch(t *testing.T) {
	huge := strings.Repeat("\xee", 1<<25)
	for _, text := range []string{huge, head + huge, head + strings.Repeat("round\n", 1<<22)} {
		if got, at, e := world.Run(text); got != "" || at != 0 || e != api.ErrScriptLong {
			t.Errorf("%d bytes: %d at %d", len(text), e, at)
		}
	}
	if got := world.Line(api.Event{Kind: api.EvAdmitted, Text: huge}); got != "admitted 0 0 0 "+strings.Repeat("ee", 1<<25) {
		t.Error(len(got))
	}
	if got := world.Line(api.Event{Kind: api.EvStored, Texts: make([]string, 1<<20)}); got != "stored 0 0 0"+strings.Repeat(" -", 1<<20) {
		t.Error(len(got))
	}
	if got := world.Line(api.Event{Kind: api.EvSubmitted, Text: huge, Texts: make([]string, 1<<20)}); got != "submitted 0" {
		t.Error(len(got))
	}
}

// R1: numbers of steps that are far out are refused by the step, and the fleet stays as it is.
func TestR1FarSteps(t *testing.T) {
	far := []string{"9223372036854775807", "-9223372036854775808", "-1", "1099511627776"}
	for _, n := range far {
		text := head
		for _, word := range []string{"tick", "step", "deliver", "drop", "dup", "crash", "settle"} {
			text += word + " " + n + "\n"
		}
		text += "start " + n + " 0 0\ninject " + n + " 00\ncut " + n + " " + n + "\ncrash 0\nstart 0 " + n + " " + n + "\n"
		got := tells(t, text)
		for i, s := range got[:9] {
			if !strings.Contains(s, " refused ") {
				t.Errorf("%d: %q", i, s)
			}
		}
	}
}

// R3: a nil list and an empty one are the same.
func TestR3NoTexts(t *testing.T) {
	rnd := newRand(10)
	for kind := range 16 {
		e := anyEvent(rnd, kind)
		e.Texts = nil
		f := e
		f.Texts = []string{}
		if a, b := lines(t, e), lines(t, f); a != b {
			t.Errorf("%q, %q", a, b)
		}
	}
}

// R4: the texts that are handed in are left as they are, and so is the room behind them.
func TestR4HandedInTextsAreLeft(t *testing.T) {
	room := []string{"a", "", "\xff", "b", "c", "d"}
	kept := slices.Clone(room)
	for kind := range 16 {
		for n := range len(room) + 1 {
			e := full(kind)
			e.Texts = room[:n]
			lines(t, e)
			if !slices.Equal(room, kept) {
				t.Fatal(kind, n)
			}
		}
	}
}

// R5: one answer, however often, and whoever else asks.
func TestR5OneAnswer(t *testing.T) {
	rnd := newRand(11)
	var all []api.Event
	var want []string
	for n := range 200 {
		e := anyEvent(rnd, n%16)
		all, want = append(all, e), append(want, lines(t, e))
	}
	done := make(chan bool)
	for range 8 {
		go func() {
			same := true
			for range 50 {
				for i, e := range all {
					same = same && world.Line(e) == want[i]
				}
			}
			done <- same
		}()
	}
	for range 8 {
		if !<-done {
			t.Error("another answer")
		}
	}
}
