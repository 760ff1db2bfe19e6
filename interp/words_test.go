package interp_test

import (
	"math"
	"math/rand/v2"
	"reflect"
	"slices"
	"strconv"
	"strings"
	"testing"

	"gaffer/api"
	"gaffer/interp"
	"gaffer/num"
	"gaffer/prog"
)

// The chapter's words, told a second time: a machine that goes by the words of its program's text, and reckons with floats.

// model: what it would do next is looked at, and only then what it is changes.
type model struct {
	fuel           int
	lines          [][]string
	place          int
	r              [8]float64
	numbers        []float64
	places         []int
	done           int
	chunks, pieces []string
	over           bool
	code           int
}

func newModel(t testing.TB, p api.Program) *model {
	t.Helper()
	text, e := prog.Print(p)
	if e != api.OK {
		t.Fatal(p, e)
	}
	m := &model{fuel: p.Fuel}
	for _, line := range strings.Split(strings.TrimSuffix(text, "\n"), "\n")[1:] {
		m.lines = append(m.lines, strings.Fields(line))
	}
	return m
}

func (m *model) clone() *model {
	c := *m
	c.numbers, c.places, c.chunks, c.pieces = slices.Clone(m.numbers), slices.Clone(m.places), slices.Clone(m.chunks), slices.Clone(m.pieces)
	return &c
}

// canon: bits with the one NaN.
func canon(f float64) uint64 {
	if f != f {
		return 0x7ff8000000000001
	}
	return math.Float64bits(f)
}

func (m *model) stop(code int) interp.Act {
	m.over, m.code = true, code
	return interp.Act{}
}

// step: one instruction of one that is not over.
func (m *model) step() interp.Act {
	m.done++
	line := m.lines[m.place]
	told, trap := m.line(line[0], line[1:])
	switch {
	case trap != 0:
		return m.stop(trap)
	case line[0] == "halt":
		m.stop(0)
	case m.place == len(m.lines):
		m.stop(0)
	case m.done == m.fuel:
		m.stop(1)
	}
	return told
}

// line: what a word does.
func (m *model) line(word string, rest []string) (interp.Act, int) {
	reg := func(i int) *float64 { return &m.r[rest[i][1]-'0'] }
	behind := m.place + 1
	switch word {
	case "jump":
		m.place = whole(rest[0])
	case "if":
		m.place = behind
		if *reg(0) != 0 {
			m.place = whole(rest[1])
		}
	case "goto":
		to := *reg(0)
		if !(to >= 0 && to <= float64(len(m.lines)) && to == math.Trunc(to)) {
			return interp.Act{}, 4
		}
		m.place = int(to)
	case "call":
		if len(m.places) == 8 {
			return interp.Act{}, 2
		}
		m.places = append(m.places, behind)
		m.place = whole(rest[0])
	case "ret":
		if len(m.places) == 0 {
			return interp.Act{}, 3
		}
		m.place = m.places[len(m.places)-1]
		m.places = m.places[:len(m.places)-1]
	case "emit":
		if len(m.chunks) == 32 {
			return interp.Act{}, 5
		}
		m.place = behind
		m.chunks = append(m.chunks, num.Text(math.Float64bits(*reg(0))))
		return interp.Act{Kind: 1, Text: m.chunks[len(m.chunks)-1]}, 0
	case "write":
		if len(m.pieces) == 16 {
			return interp.Act{}, 6
		}
		m.place = behind
		m.pieces = append(m.pieces, num.Text(math.Float64bits(*reg(0))))
		return interp.Act{Kind: 2, Text: m.pieces[len(m.pieces)-1]}, 0
	default:
		trap := m.plain(word, rest, reg)
		if trap == 0 {
			m.place = behind
		}
		return interp.Act{}, trap
	}
	return interp.Act{}, 0
}

// plain: those words whose instructions neither jump nor tell.
func (m *model) plain(word string, rest []string, reg func(int) *float64) int {
	switch word {
	case "set":
		bits, _ := num.Parse(rest[1])
		*reg(0) = math.Float64frombits(bits)
	case "push":
		if len(m.numbers) == 8 {
			return 2
		}
		m.numbers = append(m.numbers, *reg(0))
	case "pop":
		if len(m.numbers) == 0 {
			return 3
		}
		*reg(0) = m.numbers[len(m.numbers)-1]
		m.numbers = m.numbers[:len(m.numbers)-1]
	case "move":
		*reg(0) = *reg(1)
	case "neg":
		*reg(0) = -*reg(1)
	case "abs":
		*reg(0) = math.Abs(*reg(1))
	case "floor":
		*reg(0) = math.Floor(*reg(1))
	case "fail":
		return 7
	case "halt":
	default:
		*reg(0) = reckoned(word, *reg(1), *reg(2))
	}
	return 0
}

// reckoned: those words of three registers.
func reckoned(word string, b, c float64) float64 {
	switch word {
	case "add":
		return b + c
	case "sub":
		return b - c
	case "mul":
		return b * c
	case "div":
		return b / c
	case "min":
		if b != b || c != c { // the library's one tells an infinity ahead of a NaN
			return math.NaN()
		}
		return math.Min(b, c)
	case "max":
		if b != b || c != c {
			return math.NaN()
		}
		return math.Max(b, c)
	case "less":
		if b < c {
			return 1
		}
		return 0
	case "order":
		return float64(ordered(b, c))
	}
	panic("no word: " + word)
}

func ordered(b, c float64) int {
	switch bNaN, cNaN := b != b, c != c; {
	case bNaN && cNaN:
		return 0
	case bNaN, !cNaN && b > c:
		return 1
	case cNaN, b < c:
		return -1
	}
	minusB, minusC := math.Signbit(b), math.Signbit(c)
	switch {
	case minusB && !minusC:
		return -1
	case minusC && !minusB:
		return 1
	}
	return 0
}

func whole(s string) int {
	n, _ := strconv.Atoi(s)
	return n
}

func (m *model) result() api.Result {
	switch {
	case !m.over:
		return api.Result{}
	case m.code != 0:
		return api.Result{Code: m.code}
	}
	return api.Result{Bits: canon(m.r[0])}
}

// of: a program of its text, line feeds as semicolons.
func of(t testing.TB, s string) api.Program {
	t.Helper()
	p, e, at := prog.Parse(strings.ReplaceAll(s, "; ", "\n") + "\n")
	if e != api.OK {
		t.Fatal(s, e, at)
	}
	return p
}

func text(p api.Program) string {
	s, _ := prog.Print(p)
	return strings.ReplaceAll(strings.TrimSuffix(s, "\n"), "\n", "; ")
}

func machine(t testing.TB, p api.Program) *interp.Machine {
	t.Helper()
	m, e := interp.New(p)
	if e != api.OK || m == nil {
		t.Fatal(text(p), e)
	}
	return m
}

// shown: all that a machine shows.
type shown struct {
	Over        bool
	Result      api.Result
	Done, Place int
	Regs        [10]uint64
}

func look(m *interp.Machine) shown {
	s := shown{Over: m.Over(), Result: m.Result(), Done: m.Done(), Place: m.Place()}
	for i := range s.Regs {
		s.Regs[i] = m.Reg(i - 1)
	}
	return s
}

func (m *model) look() shown {
	s := shown{Over: m.over, Result: m.result(), Done: m.done, Place: m.place}
	for i, f := range m.r {
		s.Regs[i+1] = canon(f)
	}
	return s
}

// checkSteps: both machines step by step to the end, and past it.
func checkSteps(t *testing.T, name string, m *interp.Machine, w *model) {
	t.Helper()
	for {
		if a, b := look(m), w.look(); a != b {
			t.Fatalf("%s: %+v, not %+v", name, a, b)
		}
		if w.over {
			break
		}
		want := w.step()
		if told, e := m.Step(); told != want || e != api.OK {
			t.Fatalf("%s: step %d: %v, %d, not %v", name, w.done, told, e, want)
		}
	}
	for range 2 {
		if told, e := m.Step(); told != (interp.Act{}) || e != api.ErrInterpOver || look(m) != w.look() {
			t.Fatalf("%s: past its end: %v, %d, %+v", name, told, e, look(m))
		}
	}
	if l := m.Run(5); len(l) != 0 || look(m) != w.look() {
		t.Fatalf("%s: past its end: %v, %+v", name, l, look(m))
	}
}

// checkRun: a program by Step, and by Whole.
func checkRun(t *testing.T, p api.Program) *model {
	t.Helper()
	w := newModel(t, p)
	checkSteps(t, text(p), machine(t, p), w)
	o, e := interp.Whole(p)
	if e != api.OK || !sameOutcome(o, w.outcome()) {
		t.Fatalf("%s: %v, %d, not %v", text(p), o, e, w.outcome())
	}
	return w
}

func (m *model) outcome() api.Outcome {
	return api.Outcome{Result: m.result(), Chunks: m.chunks, Pieces: m.pieces, Steps: m.done}
}

func sameOutcome(a, b api.Outcome) bool {
	return a.Result == b.Result && a.Steps == b.Steps && slices.Equal(a.Chunks, b.Chunks) && slices.Equal(a.Pieces, b.Pieces)
}

func outcome(t *testing.T, p api.Program) api.Outcome {
	t.Helper()
	o, e := interp.Whole(p)
	if e != api.OK {
		t.Fatal(text(p), e)
	}
	return o
}

func source(seed uint64) *rand.Rand { return rand.New(rand.NewPCG(seed, 6)) }

// someNumbers: by their texts.
func someNumbers() []string {
	return []string{
		"0", "-0", "1p0", "-1p0", "1p1", "3p0", "1p-1", "-3p-1", "5p0", "7p0", "1p3", "1p52", "1p63", "-1p63", "1p64", "1p1023", "-1p1023",
		"9007199254740991p971", "1p-1074", "-1p-1074", "4503599627370495p-1074", "6004799503160661p-54", "inf", "-inf", "nan",
	}
}

// anyIns: an instruction of one of these words, among so many.
func anyIns(rnd *rand.Rand, words []string, many int) api.Ins {
	word := words[rnd.IntN(len(words))]
	x := api.Ins{Op: 1 + slices.Index(allWords(), word)}
	// Few registers, so that they meet again.
	reg := func() int { return rnd.IntN(4) + 4*(rnd.IntN(8)/7) }
	fields := strings.Fields(allFields())[x.Op-1]
	for _, f := range fields {
		switch f {
		case 'A':
			x.A = reg()
		case 'B':
			x.B = reg()
		case 'C':
			x.C = reg()
		case 'N':
			x.N = rnd.IntN(many + 1)
		case 'K':
			x.K = anyNumber(rnd, many)
		}
	}
	return x
}

// anyNumber: often one that is a place among so many.
func anyNumber(rnd *rand.Rand, many int) uint64 {
	switch rnd.IntN(4) {
	case 0:
		return num.Canon(rnd.Uint64())
	case 1:
		return num.Of(int64(rnd.IntN(many + 2)))
	}
	k, _ := num.Parse(someNumbers()[rnd.IntN(len(someNumbers()))])
	return k
}

// allWords: in the order of the ops' numbers.
func allWords() []string {
	return strings.Fields("set move add sub mul div min max less order neg abs floor jump if goto call ret push pop emit write fail halt")
}

// allFields: likewise; a dot for none.
func allFields() string {
	return "AK AB ABC ABC ABC ABC ABC ABC ABC ABC AB AB AB N AN A N . A A A A A ."
}

// anyProgram: one that may be, of some of the words.
func anyProgram(rnd *rand.Rand, words []string) api.Program {
	many := 1 + rnd.IntN(12)
	if rnd.IntN(10) == 0 {
		many = 60 + rnd.IntN(5)
	}
	p := api.Program{Fuel: 1 + rnd.IntN(40)}
	if rnd.IntN(5) == 0 {
		p.Fuel = 900 + rnd.IntN(125)
	}
	for range many {
		p.Code = append(p.Code, anyIns(rnd, words, many))
	}
	return p
}

// but: all words but these.
func but(left ...string) []string {
	return slices.DeleteFunc(allWords(), func(w string) bool { return slices.Contains(left, w) })
}

func same(p, q api.Program) bool { return reflect.DeepEqual(p, q) }
