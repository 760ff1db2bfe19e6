package script_test

import (
	"math"
	"math/rand"
	"slices"
	"strings"
	"testing"

	"gaffer/api"
	"gaffer/prog"
	"gaffer/script"
)

func newRand(seed int64) *rand.Rand { return rand.New(rand.NewSource(seed)) }

// short: so much of a text as a message of a test can bear.
func short(text string) string {
	if len(text) > 400 {
		return text[:200] + " .. " + text[len(text)-200:]
	}
	return text
}

// prints holds that Print answers as the words do; its answer.
func prints(t *testing.T, c api.Config, l []api.Step) (string, api.Errno) {
	t.Helper()
	want, e := modelPrint(c, l)
	text, f := script.Print(c, l)
	if text != want || f != e {
		t.Fatalf("Print(%+v, %d steps): %q, %d, not %q, %d", c, len(l), short(text), f, short(want), e)
	}
	return text, f
}

// parses holds that Parse answers as the words do; its answer.
func parses(t *testing.T, text string) (api.Config, []api.Step, api.Errno, int) {
	t.Helper()
	c, l, e, line := modelParse(text)
	d, m, f, place := script.Parse(text)
	if d != c || !slices.Equal(m, l) || f != e || place != line {
		t.Fatalf("Parse(%q): %+v, %d steps, %d at %d, not %+v, %d steps, %d at %d", short(text), d, len(m), f, place, c, len(l), e, line)
	}
	return d, m, f, place
}

// refused holds that Parse refuses a text with that error, at that line.
func refused(t *testing.T, text string, e api.Errno, line int) {
	t.Helper()
	if _, _, f, place := parses(t, text); f != e || place != line {
		t.Errorf("Parse(%q): %d at %d, not %d at %d", short(text), f, place, e, line)
	}
}

// head is the line 1 of the chapter's examples, with its line feed; config what it says.
const head = "fleet 1 40 2 2 2 8 4 4 160\n"

func config() api.Config {
	return api.Config{Runners: 1, Lease: 40, Resend: 2, Attempts: 2, Window: 2, Quantum: 8, Block: 4, Every: 4, Half: 160}
}

// packed is the bytes of a program, whose lines are parted by "; ".
func packed(s string) string {
	p, e, _ := prog.Parse(strings.ReplaceAll(s, "; ", "\n") + "\n")
	if e != api.OK {
		panic(s)
	}
	b, _ := prog.Pack(p)
	return b
}

func submits(text string) api.Step { return api.Step{Kind: api.StSubmit, Text: text} }

func injects(node int, text string) api.Step {
	return api.Step{Kind: api.StInject, A: node, Text: text}
}

func rounds(n int) []api.Step { return slices.Repeat([]api.Step{{Kind: api.StRound}}, n) }

// what there is of any kind

func anyConfig(rnd *rand.Rand) api.Config {
	return api.Config{Runners: 1 + rnd.Intn(8), Lease: 1 + rnd.Intn(256), Resend: 1 + rnd.Intn(16), Attempts: 1 + rnd.Intn(8), Window: 1 + rnd.Intn(8), Quantum: 1 + rnd.Intn(64), Block: 1 + rnd.Intn(16), Every: 1 + rnd.Intn(16), Half: 160 + rnd.Intn(353)}
}

// anyNumber is any, small ones and those at the ends more often.
func anyNumber(rnd *rand.Rand) int {
	switch rnd.Intn(4) {
	case 0:
		return []int{0, 1, -1, 9, 10, -10, 1 << 40, math.MaxInt, math.MinInt, math.MaxInt - 1, math.MinInt + 1}[rnd.Intn(11)]
	case 1:
		return int(rnd.Uint64() >> rnd.Intn(64))
	}
	return rnd.Intn(24) - 4
}

// anyText is up to so many bytes, of few values, of any, or whole characters.
func anyText(rnd *rand.Rand, most int) string {
	var b []byte
	few := []string{"\x00", "\xff", "a", "é", "中", "😀", "\xc3", "\xe4\xb8", "\xf0\x9f\x98", "\ufffd", "\n", "-", " "}
	for n, any := rnd.Intn(most+1), rnd.Intn(2) == 0; len(b) < n; {
		if any {
			b = append(b, byte(rnd.Intn(256)))
		} else {
			b = append(b, few[rnd.Intn(len(few))]...)
		}
	}
	return string(b)
}

// anyProgram is the bytes of one that may be.
func anyProgram(rnd *rand.Rand) string {
	lines := []string{"set r0 1p0", "set r7 -3p-1", "set r1 nan", "set r2 -0", "set r6 -inf", "move r1 r2", "add r0 r1 r2", "order r7 r6 r5", "jump 0", "if r1 1", "goto r3", "call 1", "ret", "push r0", "pop r1", "emit r0", "write r4", "fail r5", "halt", "neg r1 r1", "floor r0 r7"}
	s := "fuel " + []string{"1", "9", "10", "1024"}[rnd.Intn(4)]
	for range 1 + rnd.Intn([]int{1, 3, 12, 64}[rnd.Intn(4)]) {
		s += "; " + lines[rnd.Intn(len(lines))]
	}
	return packed(s)
}

// anyStep is one that may be, with at most so many bytes of no program.
func anyStep(rnd *rand.Rand, most int) api.Step {
	s := api.Step{Kind: 1 + rnd.Intn(12)}
	switch s.Kind {
	case api.StSubmit:
		s.Text = anyText(rnd, most)
		if rnd.Intn(2) == 0 {
			s.Text = anyProgram(rnd)
		}
	case api.StTick, api.StStep, api.StCrash:
		s.A = anyNumber(rnd)
	case api.StDeliver, api.StDrop, api.StDup, api.StSettle:
		s.K = anyNumber(rnd)
	case api.StInject:
		s.A, s.Text = anyNumber(rnd), anyText(rnd, most)
	case api.StStart:
		s.A, s.K, s.X = anyNumber(rnd), anyNumber(rnd), anyNumber(rnd)
	case api.StCut:
		s.K, s.X = anyNumber(rnd), anyNumber(rnd)
	}
	return s
}

func anySteps(rnd *rand.Rand, many, most int) []api.Step {
	var l []api.Step
	for range many {
		l = append(l, anyStep(rnd, most))
	}
	return l
}
