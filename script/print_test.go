package script_test

import (
	"math"
	"slices"
	"strings"
	"testing"

	"gaffer/api"
)

// numbersOf: where a config's numbers stand, with the least and the most that each may be.
func numbersOf(c *api.Config) []struct {
	at          *int
	least, most int
} {
	return []struct {
		at          *int
		least, most int
	}{
		{&c.Runners, 1, 8}, {&c.Lease, 1, 256}, {&c.Resend, 1, 16}, {&c.Attempts, 1, 8}, {&c.Window, 1, 8},
		{&c.Quantum, 1, 64}, {&c.Block, 1, 16}, {&c.Every, 1, 16}, {&c.Half, 160, 512},
	}
}

func TestP23_1Configs(t *testing.T) {
	for i := range 9 {
		for _, far := range []int{math.MinInt, -1, 0, math.MaxInt} {
			c := config()
			*numbersOf(&c)[i].at = far
			if text, e := prints(t, c, nil); e != api.ErrScriptHead || text != "" {
				t.Errorf("the number %d of line 1 is %d: %q, %d", i, far, text, e)
			}
		}
		for add, want := range map[int]api.Errno{-1: api.ErrScriptHead, 0: api.OK} {
			c := config()
			n := numbersOf(&c)[i]
			*n.at = n.least + add
			_, e := prints(t, c, nil)
			*n.at = n.most - add
			if _, f := prints(t, c, nil); e != want || f != want {
				t.Errorf("the number %d of line 1, at its ends, %d off: %d, %d", i, add, e, f)
			}
		}
	}
	rnd := newRand(1)
	for range 2000 {
		if _, e := prints(t, anyConfig(rnd), nil); e != api.OK {
			t.Error(e)
		}
	}
}

// Each kind, and what is none, with each choice of fields.
func TestP23_1Fields(t *testing.T) {
	taken := 0
	for _, kind := range []int{math.MinInt, -1, 0, 1, 2, 3, 4, 5, 6, 7, 8, 9, 10, 11, 12, 13, 14, 256 + 11, 1<<32 + 11, math.MaxInt} {
		for fields := range 16 {
			for _, n := range []int{1, -1, 7, math.MaxInt, math.MinInt} {
				for _, text := range []string{"\x00", "-", "\x09\x01\x18"} {
					s := api.Step{Kind: kind}
					for i, at := range []*int{&s.A, &s.K, &s.X} {
						if fields>>i&1 == 1 {
							*at = n
						}
					}
					if fields>>3 == 1 {
						s.Text = text
					}
					for _, l := range [][]api.Step{{s}, {{Kind: api.StRound}, s}, {s, {Kind: api.StCut}}} {
						if _, e := prints(t, config(), l); e == api.OK {
							taken++
						}
					}
				}
			}
		}
	}
	// Of the 16 choices a kind with f fields takes 2^f: eight kinds have one, two have two, one has three, one has none.
	if want := (8*2 + 2*4 + 8 + 1) * 5 * 3 * 3; taken != want {
		t.Errorf("%d were taken, not %d", taken, want)
	}
}

// Of several errors the first one of the promise is told, wherever in the list it stands.
func TestP23_1FirstError(t *testing.T) {
	bad, none := api.Step{Kind: api.StRound, A: 1}, api.Step{}
	long := injects(1, strings.Repeat("a", 3000))
	for _, x := range []struct {
		c api.Config
		l []api.Step
		e api.Errno
	}{
		{api.Config{}, rounds(2001), api.ErrScriptHead},
		{api.Config{}, []api.Step{none}, api.ErrScriptHead},
		{api.Config{}, []api.Step{long}, api.ErrScriptHead},
		{api.Config{}, nil, api.ErrScriptHead},
		{config(), append(rounds(2000), bad), api.ErrScriptLong},
		{config(), slices.Repeat([]api.Step{none}, 2001), api.ErrScriptLong},
		{config(), slices.Repeat([]api.Step{none}, 2000), api.ErrScriptStep},
		{config(), append(rounds(1999), bad), api.ErrScriptStep},
		{config(), []api.Step{long, bad}, api.ErrScriptStep},
		{config(), []api.Step{bad, long}, api.ErrScriptStep},
		{config(), append(slices.Repeat([]api.Step{injects(0, strings.Repeat("a", 2000))}, 20), none), api.ErrScriptStep},
		{config(), []api.Step{{Kind: api.StRound}, long, {Kind: api.StRound}}, api.ErrScriptLong},
	} {
		if text, e := prints(t, x.c, x.l); e != x.e || text != "" {
			t.Errorf("%+v, %d steps: %q, %d, not %d", x.c, len(x.l), short(text), e, x.e)
		}
	}
}

func TestP23_1HowManySteps(t *testing.T) {
	for _, n := range []int{0, 1, 1999, 2000, 2001, 2002, 5000} {
		want := api.OK
		if n > 2000 {
			want = api.ErrScriptLong
		}
		if _, e := prints(t, config(), rounds(n)); e != want {
			t.Errorf("%d steps: %d", n, e)
		}
	}
}

func TestP23_1LongLines(t *testing.T) {
	for _, x := range []struct {
		s api.Step
		e api.Errno
	}{
		{submits(strings.Repeat("\xff", 2045)), api.OK},                                                 // `bytes `, and 4090 digits
		{submits(strings.Repeat("\xff", 2046)), api.ErrScriptLong},                                      // two more
		{injects(12, strings.Repeat("a", 2043)), api.OK},                                                // `inject 12 `, and 4086 digits
		{injects(-12, strings.Repeat("a", 2043)), api.ErrScriptLong},                                    // one more
		{injects(1, strings.Repeat("a", 2043)), api.OK},                                                 // one less
		{injects(1, strings.Repeat("a", 2044)), api.ErrScriptLong},                                      // one more
		{injects(1, strings.Repeat("é", 1021)), api.OK},                                                 // 2042 bytes
		{injects(1, strings.Repeat("é", 1022)), api.ErrScriptLong},                                      // 2044 bytes
		{injects(1, strings.Repeat("a", 4096)), api.ErrScriptLong},                                      //
		{injects(1, strings.Repeat("a", 4097)), api.ErrScriptLong},                                      //
		{submits(strings.Repeat("a", 40000)), api.ErrScriptLong},                                        //
		{submits(packed("fuel 1024" + strings.Repeat("; set r7 -9007199254740991p-1074", 64))), api.OK}, // no program's line is longer
	} {
		if _, e := prints(t, config(), []api.Step{x.s}); e != x.e {
			t.Errorf("a text of %d bytes: %d", len(x.s.Text), e)
		}
		if _, e := prints(t, config(), append(rounds(20), x.s)); e != x.e {
			t.Errorf("behind others a text of %d bytes: %d", len(x.s.Text), e)
		}
	}
}

// full is steps whose script has just so many bytes.
func full(t *testing.T, size int) []api.Step {
	t.Helper()
	var l []api.Step
	size -= len(head)
	for ; size > 3000; size -= 2007 { // `bytes `, 2000 digits, a line feed
		l = append(l, submits(strings.Repeat("\xee", 1000)))
	}
	if size%2 == 1 { // `tick 0` takes seven bytes
		l, size = append(l, api.Step{Kind: api.StTick}), size-7
	}
	// `inject 1 `, digits, a line feed
	return append(l, injects(1, strings.Repeat("\xee", (size-10)/2)))
}

func TestP23_1LongTexts(t *testing.T) {
	for size := 32760; size < 32780; size++ {
		l := full(t, size)
		text, e := prints(t, config(), l)
		if size <= 32768 && (e != api.OK || len(text) != size) || size > 32768 && (e != api.ErrScriptLong || text != "") {
			t.Errorf("%d bytes: %d with %d bytes", size, e, len(text))
		}
	}
	for _, n := range []int{15, 16, 17, 2000} {
		prints(t, config(), slices.Repeat([]api.Step{submits(strings.Repeat("a", 1000))}, n))
	}
}

// Bytes are written one by one, whether they make characters or not.
func TestP23_1Bytes(t *testing.T) {
	var all []byte
	for i := range 256 {
		one := string([]byte{byte(i)})
		all = append(all, byte(i))
		for _, text := range []string{one, one + one, "é" + one, one + "é", "\xe4\xb8" + one, "\xf0\x9f" + one + "\x80", "\xc3" + one} {
			prints(t, config(), []api.Step{injects(0, text), submits(text)})
		}
	}
	for _, text := range []string{string(all), "é", "中", "😀", "\ufffd", "\xff\xfd", "\xef\xbf", "é中😀\ufffd", "\xed\xa0\x80", "\xf4\x90\x80\x80", "\xc0\x80", "e\u0301", "\u0000"} {
		prints(t, config(), []api.Step{injects(0, text), submits(text)})
	}
	text, _ := prints(t, config(), []api.Step{injects(0, "aé中😀\ufffd\xff\xc3")})
	if want := head + "inject 0 61c3a9e4b8adf09f9880efbfbdffc3\n"; text != want {
		t.Errorf("%q, not %q", text, want)
	}
}

// A program is told by its lines, what is none by its bytes, also if just a byte is wrong.
func TestP23_1Submissions(t *testing.T) {
	for i := range 256 {
		b := string([]byte{byte(i)})
		for _, text := range []string{b + "\x01\x18", "\x09" + b + "\x18", "\x09\x01" + b, "\x09\x01\x18" + b, "\x09\x01\x15" + b, "\x09\x01\x0e" + b} {
			prints(t, config(), []api.Step{submits(text)})
		}
	}
	rnd := newRand(2)
	for range 3000 {
		text := anyProgram(rnd)
		prints(t, config(), []api.Step{submits(text)})
		prints(t, config(), []api.Step{submits(text[:rnd.Intn(len(text))])})
		prints(t, config(), []api.Step{injects(1, text)})
	}
}

func TestP23_1AnyScripts(t *testing.T) {
	rnd := newRand(3)
	took := map[api.Errno]int{}
	for range 3000 {
		l := anySteps(rnd, rnd.Intn(60), []int{4, 40, 600, 2200}[rnd.Intn(4)])
		if len(l) > 0 && rnd.Intn(10) == 0 {
			s := &l[rnd.Intn(len(l))]
			*[]*int{&s.Kind, &s.A, &s.K, &s.X}[rnd.Intn(4)] = anyNumber(rnd)
		}
		_, e := prints(t, anyConfig(rnd), l)
		took[e]++
	}
	if took[api.OK] < 1000 || took[api.ErrScriptStep] < 50 || took[api.ErrScriptLong] < 20 {
		t.Error(took)
	}
}
