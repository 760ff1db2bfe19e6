package measure_test

import (
	"math"
	"testing"

	"gaffer/api"
	"gaffer/measure"
)

// R1: whatever came ahead, also bytes that are no message and steps that may not be, all calls answer, and as the words do.
func TestR1Anything(t *testing.T) {
	t.Parallel()
	refused := 0
	far := []int{math.MinInt, -1, 0, 1, 2, 9, 1 << 40, math.MaxInt}
	for seed := range int64(80) {
		rnd := newRand(seed)
		x := walked(t, rnd, 1)
		h := anyHarms(rnd)
		for i := range 120 {
			number := func() int { return far[rnd.Intn(len(far))] }
			s := h.step(rnd, x)
			if rnd.Intn(4) == 0 {
				s = api.Step{Kind: rnd.Intn(14), A: number(), K: number(), X: number(), Text: []string{"", "x", "\xff\x00"}[rnd.Intn(3)]}
			}
			do(x, s)
			if _, e := asks(t, x); e != api.OK {
				refused++
			}
			if i%8 == 0 {
				measures(t, x)
			}
		}
	}
	if refused < 100 {
		t.Errorf("just %d were refused", refused)
	}
	for _, n := range far {
		c := api.Config{Runners: n, Lease: n, Resend: n, Attempts: n, Window: n, Quantum: n, Block: n, Every: n, Half: 160}
		full, e := measure.Full(c)
		if ok := n == 1 || n == 2; ok != (e == api.OK) || ok != (full > 0) {
			t.Errorf("Full(%+v): %d, %v", c, full, e)
		}
	}
}

// R1: the greatest fleet, with a lot under way.
func TestR1Greatest(t *testing.T) {
	c := api.Config{Runners: 8, Lease: 256, Resend: 16, Attempts: 8, Window: 8, Quantum: 64, Block: 16, Every: 16, Half: 512}
	x := fleet(t, c)
	for range 8 {
		do(x, submits(rising(1024, "move r2 r2", "emit r0", "write r0")))
	}
	units(t, x, 64*(2064+256)+8)
	do(x, settles(6))
	for range 2000 {
		do(x, dups(len(x.Bag())-1))
	}
	for range 3 {
		measures(t, x)
		falls(t, x)
	}
	ends(t, x)
}

// R5: one answer, whoever asks, and however often; at the same time, too, of fleets of their own.
func TestR5OneAnswer(t *testing.T) {
	done := make(chan string)
	for range 8 {
		go func() {
			wrong := ""
			for seed := range int64(20) {
				rnd := newRand(seed)
				x := walked(t, rnd, 120)
				u, e := measure.Units(x)
				m, f := measure.Of(x)
				y := x.Clone()
				for range 3 {
					v, e2 := measure.Units(y)
					n, f2 := measure.Of(y)
					w, e3 := measure.Units(x)
					if u != v || m != n || e != e2 || f != f2 || w != u || e3 != e {
						wrong = "another answer"
					}
				}
			}
			done <- wrong
		}()
	}
	for range 8 {
		if wrong := <-done; wrong != "" {
			t.Error(wrong)
		}
	}
}
