package world_test

import (
	"fmt"
	"math"
	"math/rand"
	"strings"
	"testing"

	"gaffer/api"
	"gaffer/cluster"
	"gaffer/prog"
	"gaffer/script"
	"gaffer/world"
)

func newRand(seed int64) *rand.Rand { return rand.New(rand.NewSource(seed)) }

// short: so much of a text as a message of a test can bear.
func short(text string) string {
	if len(text) > 3000 {
		return text[:1500] + " .. " + text[len(text)-1500:]
	}
	return text
}

// lines holds that Line answers as the words do; its answer.
func lines(t *testing.T, e api.Event) string {
	t.Helper()
	got, want := world.Line(e), modelLine(e)
	if got != want {
		t.Fatalf("Line(%s): %q, not %q", short(fmt.Sprintf("%+v", e)), short(got), short(want))
	}
	return got
}

// line holds that Line is just that.
func line(t *testing.T, e api.Event, want string) {
	t.Helper()
	if got := lines(t, e); got != want {
		t.Errorf("Line(%+v): %q, not %q", e, got, want)
	}
}

// runs holds that Run answers as the words do; its answer.
func runs(t *testing.T, text string) (string, int, api.Errno) {
	t.Helper()
	want, at, e := modelRun(text)
	got, place, f := world.Run(text)
	if got != want || place != at || f != e {
		t.Fatalf("Run(%s): %d at %d, not %d at %d\n%s\nnot\n%s", short(text), f, place, e, at, short(got), short(want))
	}
	return got, place, f
}

// tells is the transcript of a script that is taken, as its lines.
func tells(t *testing.T, text string) []string {
	t.Helper()
	got, at, e := runs(t, text)
	if e != api.OK || at != 0 || !strings.HasSuffix(got, "\n") {
		t.Fatalf("Run(%s): %d at %d, %q", short(text), e, at, short(got))
	}
	return strings.Split(strings.TrimSuffix(got, "\n"), "\n")
}

// transcript holds that a script's is just that.
func transcript(t *testing.T, text, want string) {
	t.Helper()
	if got := strings.Join(tells(t, text), "\n") + "\n"; got != want {
		t.Errorf("Run(%s):\n%s\nnot\n%s", text, got, want)
	}
}

// refused holds that Run refuses a text with that error, at that line.
func refused(t *testing.T, text string, e api.Errno, line int) {
	t.Helper()
	if got, at, f := runs(t, text); got != "" || at != line || f != e {
		t.Errorf("Run(%q): %d at %d, not %d at %d; %q", short(text), f, at, e, line, short(got))
	}
}

// head is the line 1 of the chapter's examples, with its line feed; config what it says.
const head = "fleet 1 40 2 2 2 8 4 4 160\n"

func config() api.Config {
	return api.Config{Runners: 1, Lease: 40, Resend: 2, Attempts: 2, Window: 2, Quantum: 8, Block: 4, Every: 4, Half: 160}
}

// printed is the text of a config and steps.
func printed(t *testing.T, c api.Config, l []api.Step) string {
	t.Helper()
	text, e := script.Print(c, l)
	if e != api.OK {
		t.Fatalf("Print(%+v, %d steps): %d", c, len(l), e)
	}
	return text
}

// what there is of any kind

// anyNumber is any, small ones and those at the ends more often.
func anyNumber(rnd *rand.Rand) int {
	switch rnd.Intn(4) {
	case 0:
		return []int{0, 1, -1, 9, 10, -10, 1 << 40, math.MaxInt, math.MinInt, math.MaxInt - 1, math.MinInt + 1}[rnd.Intn(11)]
	case 1:
		return int(rnd.Uint64() >> rnd.Intn(64))
	}
	return rnd.Intn(24) - 4
}

// anyText is up to so many bytes, of any, or of few values and whole characters.
func anyText(rnd *rand.Rand, most int) string {
	var b []byte
	few := []string{"\x00", "\xff", "a", "é", "中", "😀", "\xc3", "\xe4\xb8", "\xf0\x9f\x98", "\ufffd", "\n", "-", " "}
	for n, any := rnd.Intn(most+1), rnd.Intn(2) == 0; len(b) < n; {
		if any {
			b = append(b, byte(rnd.Intn(256)))
		} else {
			b = append(b, few[rnd.Intn(len(few))]...)
		}
	}
	return string(b)
}

func anyTexts(rnd *rand.Rand, most int) []string {
	var l []string
	for range rnd.Intn(most + 1) {
		l = append(l, anyText(rnd, 5))
	}
	return l
}

func anyAddress(rnd *rand.Rand) api.Addr { return api.Addr{Node: anyNumber(rnd), Life: anyNumber(rnd)} }

// anyEvent has any fields, whether its kind has them or not.
func anyEvent(rnd *rand.Rand, kind int) api.Event {
	return api.Event{
		Kind: kind, Code: api.Errno(anyNumber(rnd)), Who: anyAddress(rnd), Job: anyNumber(rnd), Badge: anyNumber(rnd), Index: anyNumber(rnd), Count: anyNumber(rnd),
		Status: anyNumber(rnd), Result: api.Result{Code: anyNumber(rnd), Bits: rnd.Uint64() >> rnd.Intn(65)}, Text: anyText(rnd, 9), Texts: anyTexts(rnd, 4),
	}
}

// packed is the bytes of a program, whose lines are parted by "; ".
func packed(s string) string {
	p, e, line := prog.Parse(strings.ReplaceAll(s, "; ", "\n") + "\n")
	if e != api.OK {
		panic(fmt.Sprint(s, e, line))
	}
	b, _ := prog.Pack(p)
	return b
}

// rising is a program that counts up for good, and tells each number by these instructions of r0.
func rising(fuel int, tells ...string) string {
	return fmt.Sprintf("fuel %d; set r1 1p0; add r0 r0 r1; %s; jump 1", fuel, strings.Join(tells, "; "))
}

func anyProgram(rnd *rand.Rand) string {
	switch rnd.Intn(6) {
	case 0:
		return packed("fuel 9; set r0 1p0; emit r0; write r0; halt")
	case 1:
		return packed("fuel 9; fail r0")
	}
	return packed(rising(1+rnd.Intn(120), []string{"emit r0", "write r0", "emit r1", "move r2 r1"}[rnd.Intn(4)], []string{"emit r0", "write r0", "write r1"}[rnd.Intn(3)]))
}

// anyConfig is any that may be, with small numbers more often than great ones.
func anyConfig(rnd *rand.Rand) api.Config {
	few := func(most int) int {
		if rnd.Intn(4) == 0 {
			return 1 + rnd.Intn(most)
		}
		return 1 + rnd.Intn(min(4, most))
	}
	return api.Config{Runners: few(8), Lease: 1 + few(64), Resend: few(16), Attempts: few(8), Window: few(8), Quantum: few(64), Block: few(16), Every: few(16), Half: 160 + rnd.Intn(2)*rnd.Intn(353)}
}

// anyStep is one that may do something in a fleet as it stands, now and then one that may not be; with one kind of harm more often than others.
func anyStep(rnd *rand.Rand, x *cluster.Cluster, harm int) api.Step {
	under, runner := len(x.Bag()), 2+rnd.Intn(x.Config().Runners)
	if rnd.Intn(12) == 0 {
		switch harm {
		case 0:
			return api.Step{Kind: api.StCrash, A: runner}
		case 1:
			return api.Step{Kind: api.StCut, K: 1 + rnd.Intn(5), X: []int{0, 64, 127, 128}[rnd.Intn(4)]}
		case 2:
			return api.Step{Kind: api.StCrash}
		case 3:
			return api.Step{Kind: api.StTick}
		case 4:
			return api.Step{Kind: api.StSubmit, Text: anyProgram(rnd)}
		}
		return anyForm(rnd)
	}
	for n := range 2 + x.Config().Runners {
		if !x.Up(n) && rnd.Intn(6) == 0 {
			return api.Step{Kind: api.StStart, A: n, K: rnd.Intn(6) * rnd.Intn(2), X: 128 * rnd.Intn(2)}
		}
	}
	switch n := rnd.Intn(42); {
	case n == 0:
		return api.Step{Kind: api.StTick}
	case n < 5:
		return api.Step{Kind: api.StTick, A: runner}
	case n < 15 || under == 0:
		return api.Step{Kind: api.StStep, A: runner}
	case n < 19:
		return api.Step{Kind: api.StDrop + rnd.Intn(2), K: rnd.Intn(under)}
	case n < 21:
		return api.Step{Kind: api.StRound}
	}
	return api.Step{Kind: api.StDeliver, K: rnd.Intn(under)}
}

// anyForm is a step of any kind, with numbers that are often refused.
func anyForm(rnd *rand.Rand) api.Step {
	number := func() int { return rnd.Intn(6) - 1 }
	switch kind := 1 + rnd.Intn(12); kind {
	case api.StSubmit:
		return api.Step{Kind: kind, Text: []string{"", "x", "\xff\x00", anyProgram(rnd)}[rnd.Intn(4)]}
	case api.StTick, api.StStep, api.StCrash:
		return api.Step{Kind: kind, A: number()}
	case api.StInject:
		return api.Step{Kind: kind, A: number(), Text: anyText(rnd, 4)}
	case api.StStart:
		return api.Step{Kind: kind, A: number(), K: number(), X: rnd.Intn(140) - 1}
	case api.StCut:
		return api.Step{Kind: kind, K: number(), X: rnd.Intn(140) - 1}
	case api.StRound:
		return api.Step{Kind: kind}
	default:
		return api.Step{Kind: kind, K: number()}
	}
}

// walked is a fleet's steps and its config; in most of them all jobs are settled behind.
func walked(t *testing.T, rnd *rand.Rand, many int) (api.Config, []api.Step) {
	t.Helper()
	c := anyConfig(rnd)
	if rnd.Intn(2) == 0 {
		c.Runners, c.Attempts, c.Lease = 1+rnd.Intn(4), 1+rnd.Intn(8), 1+rnd.Intn(12)
	}
	x, e := cluster.New(c)
	if e != api.OK {
		t.Fatalf("New(%+v): %v", c, e)
	}
	var l []api.Step
	does := func(s api.Step) {
		x.Step(s)
		l = append(l, s)
	}
	for range 1 + rnd.Intn(4) {
		does(api.Step{Kind: api.StSubmit, Text: anyProgram(rnd)})
	}
	for harm := rnd.Intn(7); len(l) < many; {
		does(anyStep(rnd, x, harm))
	}
	if rnd.Intn(4) > 0 {
		for n := range 2 + c.Runners {
			if !x.Up(n) {
				does(api.Step{Kind: api.StStart, A: n})
			}
		}
		does(api.Step{Kind: api.StCut})
		for range 20 {
			if !x.Settled() {
				does(api.Step{Kind: api.StSettle, K: 100})
			}
		}
	}
	return c, l
}
