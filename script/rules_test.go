package script_test

import (
	"math"
	"slices"
	"strings"
	"testing"

	"gaffer/api"
	"gaffer/script"
)

// R1: whatever is handed in, both calls answer, and as the words do.
func TestR1Anything(t *testing.T) {
	t.Parallel()
	rnd := newRand(9)
	far := []int{math.MinInt, math.MinInt + 1, -1, 0, 1, 2, 8, 12, 13, 160, 1 << 40, math.MaxInt}
	number := func() int { return far[rnd.Intn(len(far))] }
	for range 20000 {
		c := config()
		if rnd.Intn(4) == 0 {
			c = api.Config{Runners: number(), Lease: number(), Resend: number(), Attempts: number(), Window: number(), Quantum: number(), Block: number(), Every: number(), Half: number()}
		}
		var l []api.Step
		for range rnd.Intn(3) {
			l = append(l, api.Step{Kind: number(), A: number() * rnd.Intn(2), K: number() * rnd.Intn(2), X: number() * rnd.Intn(2), Text: anyText(rnd, 3)})
		}
		prints(t, c, l)
	}
}

// R1: far more than may be is refused, and soon.
func TestR1FarTooMuch(t *testing.T) {
	huge := strings.Repeat("\xee", 1<<26)
	for _, s := range []api.Step{submits(huge), injects(1, huge)} {
		if text, e := script.Print(config(), []api.Step{s}); text != "" || e != api.ErrScriptLong {
			t.Errorf("%d bytes: %d", len(huge), e)
		}
	}
	for _, text := range []string{huge, strings.Repeat("\n", 1<<26), head + strings.Repeat("round\n", 1<<22)} {
		if c, l, e, line := script.Parse(text); c != (api.Config{}) || len(l) != 0 || e != api.ErrScriptLong || line != 0 {
			t.Errorf("%d bytes: %d at %d", len(text), e, line)
		}
	}
	if text, e := script.Print(config(), make([]api.Step, 1<<22)); text != "" || e != api.ErrScriptLong {
		t.Error(e)
	}
}

// R3: a nil list and an empty one are the same.
func TestR3NoSteps(t *testing.T) {
	text, e := script.Print(config(), nil)
	again, f := script.Print(config(), []api.Step{})
	if text != head || again != head || e != api.OK || f != api.OK {
		t.Errorf("%q, %d; %q, %d", text, e, again, f)
	}
}

// R4: the steps that are handed in are left as they are, and so is the room behind them.
func TestR4HandedInStepsAreLeft(t *testing.T) {
	rnd := newRand(10)
	room := anySteps(rnd, 40, 6)
	room[7] = api.Step{Kind: 99, A: 1}
	kept := slices.Clone(room)
	for n := range 40 {
		script.Print(config(), room[:n])
		script.Print(api.Config{}, room[:n])
		if !slices.Equal(room, kept) {
			t.Fatal(n)
		}
	}
}

// R4: what is answered is new memory.
func TestR4AnswersAreNewMemory(t *testing.T) {
	text := head + strings.Repeat("cut 1 2\ninject 1 00\n", 5)
	_, want, _, _ := script.Parse(text)
	want = slices.Clone(want)
	for range 3 {
		_, l, _, _ := script.Parse(text)
		if !slices.Equal(l, want) {
			t.Fatal(l)
		}
		l = l[:cap(l)]
		for i := range l {
			l[i] = api.Step{Kind: 99, Text: "spoilt"}
		}
	}
}

// R5: one answer, however often, and whoever else asks.
func TestR5OneAnswer(t *testing.T) {
	rnd := newRand(11)
	type pair struct {
		c    api.Config
		l    []api.Step
		text string
	}
	var all []pair
	for range 50 {
		p := pair{c: anyConfig(rnd), l: anySteps(rnd, rnd.Intn(20), 20)}
		p.text, _ = script.Print(p.c, p.l)
		all = append(all, p)
	}
	done := make(chan bool)
	for range 8 {
		go func() {
			same := true
			for range 20 {
				for _, p := range all {
					text, _ := script.Print(p.c, p.l)
					c, l, _, _ := script.Parse(p.text)
					same = same && text == p.text && c == p.c && slices.Equal(l, p.l)
				}
			}
			done <- same
		}()
	}
	for range 8 {
		if !<-done {
			t.Error("another answer")
		}
	}
}
