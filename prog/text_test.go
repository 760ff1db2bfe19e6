package prog_test

import (
	"slices"
	"strings"
	"testing"

	"gaffer/api"
	"gaffer/prog"
)

func TestP5_2PrintExample(t *testing.T) {
	if s, e := prog.Print(example()); s != lineFeeds("fuel 9;set r0 3p-1;emit r0;jump 3;") || e != api.OK {
		t.Errorf("%q, %d", s, e)
	}
}

// The whole table, each word and each field in its place.
func TestP5_2EachOpsText(t *testing.T) {
	const text = `fuel 1024
set r1 -0
set r7 nan
set r0 -3p-2
move r1 r2
add r3 r4 r5
sub r6 r7 r0
mul r1 r2 r3
div r4 r5 r6
min r7 r0 r1
max r2 r3 r4
less r5 r6 r7
order r0 r1 r2
neg r3 r4
abs r5 r6
floor r7 r0
jump 0
if r1 26
goto r2
call 10
ret
push r3
pop r4
emit r5
write r6
fail r7
halt
`
	code := []api.Ins{
		{Op: api.OpSet, A: 1, K: 1 << 63}, {Op: api.OpSet, A: 7, K: oneNaN}, {Op: api.OpSet, K: 0xbfe8000000000000},
		{Op: api.OpMove, A: 1, B: 2}, {Op: api.OpAdd, A: 3, B: 4, C: 5}, {Op: api.OpSub, A: 6, B: 7},
		{Op: api.OpMul, A: 1, B: 2, C: 3}, {Op: api.OpDiv, A: 4, B: 5, C: 6}, {Op: api.OpMin, A: 7, C: 1},
		{Op: api.OpMax, A: 2, B: 3, C: 4}, {Op: api.OpLess, A: 5, B: 6, C: 7}, {Op: api.OpOrder, B: 1, C: 2},
		{Op: api.OpNeg, A: 3, B: 4}, {Op: api.OpAbs, A: 5, B: 6}, {Op: api.OpFloor, A: 7},
		{Op: api.OpJump}, {Op: api.OpIf, A: 1, N: 26}, {Op: api.OpGoto, A: 2}, {Op: api.OpCall, N: 10}, {Op: api.OpRet},
		{Op: api.OpPush, A: 3}, {Op: api.OpPop, A: 4}, {Op: api.OpEmit, A: 5}, {Op: api.OpWrite, A: 6}, {Op: api.OpFail, A: 7}, {Op: api.OpHalt},
	}
	p := api.Program{Fuel: 1024, Code: code}
	if s, e := prog.Print(p); s != text || e != api.OK {
		t.Errorf("%d, %s", e, s)
	}
	if q, e, at := prog.Parse(text); !same(p, q) || e != api.OK || at != 0 {
		t.Error(e, at, q)
	}
}

// wrongText: a text, with `;` for line feeds, and what Parse tells of it.
type wrongText struct {
	text string
	e    api.Errno
	at   int
}

func checkWrong(t *testing.T, l []wrongText) {
	t.Helper()
	for _, x := range l {
		if p, e, at := prog.Parse(lineFeeds(x.text)); e != x.e || at != x.at || !same(p, api.Program{}) {
			t.Errorf("%q: %v, %d at %d, not %d at %d", x.text, p, e, at, x.e, x.at)
		}
	}
}

func TestP5_2ParseExamples(t *testing.T) {
	checkWrong(t, []wrongText{
		{"", api.ErrProgLine, 1}, {"fuel 9", api.ErrProgLine, 1}, {"fuel 09;", api.ErrProgLine, 1}, {"fuel 9;", api.ErrProgMany, 0},
		{"fuel 9;halt", api.ErrProgLine, 2}, {"fuel 9;halt ;", api.ErrProgLine, 2},
		{"fuel 0;halt;", api.ErrProgFuel, 1}, {"fuel 9;jump 2;", api.ErrProgJump, 2}, {"fuel 9;emit r8;", api.ErrProgLine, 2},
		{"fuel 9;set r0 2p0;", api.ErrProgLine, 2}, {"fuel 9;halt;;", api.ErrProgLine, 3},
	})
}

// fuelForms: those of line 1.
func fuelForms() []string {
	return []string{
		"", " ", "fuel", "fuel ", "fuel  9", " fuel 9", "fuel 9 ", "fuel\t9", "fuel 9\r", "Fuel 9", "fuel9", "fuels 9", "9", "fuel 9 9", "halt",
		"fuel +9", "fuel -9", "fuel -0", "fuel 00", "fuel 09", "fuel 000000009", "fuel 9.", "fuel 9p0", "fuel 0x9", "fuel 1_0", "fuel r1", "fuel \x00", "fuel 9\x00", "fuel 9\xff", "fuel \u0669",
		"fuel 1", "fuel 0", "fuel 1024", "fuel 1025", "fuel 999999999", "fuel 1000000000", "fuel 0000000001", "fuel 18446744073709551617", "fuel " + strings.Repeat("9", 40),
	}
}

func TestP5_2FuelForms(t *testing.T) {
	r := newReader()
	for _, form := range fuelForms() {
		for _, behind := range []string{"", "\n", "\nhalt\n", "\nhalt", "\n\n", "\nhalt\nhelt\n", "\njump 9\n"} {
			r.checkParse(t, form+behind)
		}
	}
	checkWrong(t, []wrongText{
		{"fuel 999999999;halt;", api.ErrProgFuel, 1}, {"fuel 1000000000;halt;", api.ErrProgLine, 1}, {"fuel 0;", api.ErrProgFuel, 1},
		{"fuel 0;jump 2;", api.ErrProgFuel, 1}, {"fuel 0;halt;helt;", api.ErrProgLine, 3}, {";fuel 9;halt;", api.ErrProgLine, 1},
	})
}

// insForms: those of an instruction's line, right and wrong.
func insForms() []string {
	l := []string{"", " ", "\r", "fuel 9", "nop", "25", "#", "set", "set r0", "set r0 1p0 r1", "set 1p0 r0", "if 1 r0", "\x00", "ha\x00lt", "\xff"}
	for _, o := range allOps() {
		parts := []string{o.word}
		for _, name := range o.names {
			parts = append(parts, map[string]string{"A": "r1", "B": "r2", "C": "r3", "N": "1", "K": "1p0"}[name])
		}
		right := strings.Join(parts, " ")
		l = append(l, right, " "+right, right+" ", right+"\r", "\t"+right, right+" r0", right+" 0", right+"  ", strings.ToUpper(right), right+"x", right+"\x00")
		l = append(l, strings.Join(parts, "  "), strings.Join(parts, "\t"), strings.Join(parts, ","), strings.Join(parts, ""), strings.Join(parts[:len(parts)-1], " "))
		for i, name := range o.names {
			for _, word := range wordsOf(name) {
				turned := slices.Clone(parts)
				turned[i+1] = word
				l = append(l, strings.Join(turned, " "))
			}
		}
	}
	return l
}

// wordsOf: what stands in a field's place.
func wordsOf(name string) []string {
	switch name {
	case "K":
		return []string{"", "0", "-0", "nan", "-nan", "NaN", "inf", "-inf", "+inf", "1", "2p0", "1p-0", "01p0", "+1p0", "1p", "p1", "-1p-1", "1p1023", "1p1024", "1p-1074", "1p-1075", "9007199254740993p0", "r1", "1e5", "0x1p0", "0p0", "1p0p0"}
	case "N":
		return []string{"", "0", "1", "2", "3", "4", "5", "-1", "+1", "-0", "00", "01", "64", "65", "999999999", "1000000000", "0000000001", "r1", "1p0", "1_0", "18446744073709551617", "x"}
	}
	return []string{"", "r", "r0", "r7", "r8", "r9", "r-1", "r+1", "r-0", "r00", "r01", "r07", "r10", "rr1", "R1", "1", "0", "r1p0", "r 1", "r1.", "r\u0661", "r\xff", "r/", "r:", "r999999999", "r1000000000", "r18446744073709551617"}
}

func TestP5_2InstructionForms(t *testing.T) {
	r := newReader()
	for _, form := range insForms() {
		for _, text := range []string{"fuel 9\n" + form, "fuel 9\n" + form + "\n", "fuel 9\nhalt\n" + form + "\nhalt\n", "fuel 9\n" + form + "\nhelt\n", "fuel 0\n" + form + "\n", "fuel 9\njump 9\n" + form + "\n"} {
			r.checkParse(t, text)
		}
	}
}

// All lines must be of their form ahead of what they say.
func TestP5_2FormsAheadOfCheck(t *testing.T) {
	checkWrong(t, []wrongText{
		{"fuel 9;jump 2;helt;", api.ErrProgLine, 3}, {"fuel 9;jump 3;emit r8;", api.ErrProgLine, 3}, {"fuel 9;helt;emit r8;", api.ErrProgLine, 2},
		{"fuel 9;jump 3;jump 3;", api.ErrProgJump, 2}, {"fuel 9;jump 2;jump 3;", api.ErrProgJump, 3}, {"fuel 0;jump 3;", api.ErrProgFuel, 1},
		{"fuel 9;halt;jump 2;call 4;ret;halt", api.ErrProgLine, 6}, {"fuel 9;halt;jump 2;call 4;if r0 5;", api.ErrProgJump, 5},
	})
}

func TestP5_2HowManyLines(t *testing.T) {
	r := newReader()
	for _, many := range []int{0, 1, 63, 64, 65, 66, 200, 1000} {
		code := strings.Repeat("ret\n", many)
		for _, fuel := range []string{"fuel 1\n", "fuel 0\n", "fuel 1025\n"} {
			for _, behind := range []string{"", "halt", "\n", "halt\n", "jump 64\n", "jump 65\n", "jump 66\n", "halt\nhelt\n"} {
				r.checkParse(t, fuel+code+behind)
			}
		}
	}
	checkWrong(t, []wrongText{
		{"fuel 1;" + strings.Repeat("halt;", 65), api.ErrProgMany, 0}, {"fuel 0;" + strings.Repeat("halt;", 65), api.ErrProgFuel, 1},
		{"fuel 1;" + strings.Repeat("halt;", 100000), api.ErrProgMany, 0}, {"fuel 1;" + strings.Repeat("halt;", 100000) + ";", api.ErrProgLine, 100002},
	})
}

func TestP5_2LongTexts(t *testing.T) {
	const long = 1 << 22
	checkWrong(t, []wrongText{
		{strings.Repeat(" ", long), api.ErrProgLine, 1}, {strings.Repeat(";", long), api.ErrProgLine, 1}, {"fuel " + strings.Repeat("9", long) + ";", api.ErrProgLine, 1},
		{"fuel 9;halt" + strings.Repeat(" ", long) + ";", api.ErrProgLine, 2}, {"fuel 9;set r0 " + strings.Repeat("1", long) + "p0;", api.ErrProgLine, 2},
		{"fuel 9;add" + strings.Repeat(" r0", long) + ";", api.ErrProgLine, 2},
	})
}

// Every text that is one byte away from a program's.
func TestP5_2OneByteAway(t *testing.T) {
	r := newReader()
	others := []byte("\x00\n\r\t -0189arpRnh\x7f\xc2\xff")
	for _, text := range []string{lineFeeds("fuel 9;set r0 3p-1;emit r0;jump 3;"), lineFeeds("fuel 10;if r7 2;halt;"), lineFeeds("fuel 1;add r0 r1 r2;")} {
		for i := range text {
			r.checkParse(t, text[:i]+text[i+1:])
			r.checkParse(t, text[:i])
			for _, b := range others {
				r.checkParse(t, text[:i]+string([]byte{b})+text[i+1:])
				r.checkParse(t, text[:i]+string([]byte{b})+text[i:])
			}
		}
		for _, b := range others {
			r.checkParse(t, text+string([]byte{b}))
		}
	}
}

func TestP5_2AnyTexts(t *testing.T) {
	r := newReader()
	rnd := source(52)
	forms := insForms()
	for range 5000 {
		text := "fuel 9\n"
		if rnd.IntN(5) == 0 {
			text = fuelForms()[rnd.IntN(len(fuelForms()))] + "\n"
		}
		for range rnd.IntN(4) {
			form := forms[rnd.IntN(len(forms))]
			if rnd.IntN(2) == 0 {
				form = "call 1"
			}
			text += form + "\n"
		}
		r.checkParse(t, text[:len(text)-rnd.IntN(10)/9])
	}
}

// What follows: Parse of Print is the program; what Parse takes, Print tells.
func TestP5_4TextThereAndBack(t *testing.T) {
	rnd := source(54)
	for range 3000 {
		p := anyProgram(rnd)
		text, e := prog.Print(p)
		if e != api.OK {
			t.Fatal(p, e)
		}
		q, e, at := prog.Parse(text)
		if !same(p, q) || e != api.OK || at != 0 {
			t.Fatalf("%q: %v, %d at %d", text, q, e, at)
		}
	}
	taken := 0
	for _, form := range insForms() {
		text := "fuel 9\n" + form + "\n"
		p, e, _ := prog.Parse(text)
		if e != api.OK {
			continue
		}
		taken++
		if s, e := prog.Print(p); s != text || e != api.OK {
			t.Fatalf("%q: %q, %d", text, s, e)
		}
	}
	if taken < 100 {
		t.Error(taken)
	}
}

// A text that is cut within a line is none, and the line is the one that is cut.
func TestP5_4CutTexts(t *testing.T) {
	rnd := source(55)
	for range 100 {
		text, _ := prog.Print(anyProgram(rnd))
		for i := 1; i < len(text); i++ {
			if text[i-1] == '\n' {
				continue
			}
			p, e, at := prog.Parse(text[:i])
			if e != api.ErrProgLine || at != 1+strings.Count(text[:i], "\n") || !same(p, api.Program{}) {
				t.Fatalf("%q: %v, %d at %d", text[:i], p, e, at)
			}
		}
	}
}
