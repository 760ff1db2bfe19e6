package interp_test

import (
	"math"
	"slices"
	"strconv"
	"strings"
	"testing"

	"gaffer/api"
	"gaffer/interp"
	"gaffer/num"
)

const (
	exampleP = "fuel 9; set r0 3p-1; emit r0; jump 3"
	exampleQ = "fuel 5; write r1; if r1 3; jump 0; halt"
)

// wrongPrograms: one of each of Check's errors, and two of them at once.
func wrongPrograms() map[api.Errno][]api.Program {
	one := func(fuel int, code ...api.Ins) api.Program { return api.Program{Fuel: fuel, Code: code} }
	halt := api.Ins{Op: api.OpHalt}
	return map[api.Errno][]api.Program{
		api.ErrProgFuel: {one(0, halt), one(-1, halt), one(1025, halt), one(math.MaxInt, halt), one(math.MinInt), {}},
		api.ErrProgMany: {one(1), {Fuel: 9, Code: []api.Ins{}}, one(9, slices.Repeat([]api.Ins{halt}, 65)...), one(9, slices.Repeat([]api.Ins{{}}, 65)...)},
		api.ErrProgOp:   {one(9, api.Ins{}), one(9, halt, api.Ins{Op: 25, A: 9}), one(9, api.Ins{Op: -1}), one(9, api.Ins{Op: math.MaxInt}), one(9, api.Ins{Op: 26}, api.Ins{Op: api.OpJump, N: 5})},
		api.ErrProgReg:  {one(9, api.Ins{Op: api.OpEmit, A: 8}), one(9, api.Ins{Op: api.OpMove, B: -1}), one(9, api.Ins{Op: api.OpAdd, C: math.MaxInt})},
		api.ErrProgJump: {one(9, api.Ins{Op: api.OpJump, N: 2}), one(9, halt, api.Ins{Op: api.OpCall, N: -1}), one(9, api.Ins{Op: api.OpIf, N: math.MinInt})},
		api.ErrProgForm: {one(9, api.Ins{Op: api.OpHalt, A: 1}), one(9, api.Ins{Op: api.OpSet, K: 0x7ff8000000000000}), one(9, halt, api.Ins{Op: api.OpRet, K: 1})},
	}
}

func TestP6_1AndP6_4WrongPrograms(t *testing.T) {
	for want, l := range wrongPrograms() {
		for i, p := range l {
			if m, e := interp.New(p); m != nil || e != want {
				t.Errorf("New, %d of %d: %v, %d", i, want, m, e)
			}
			if o, e := interp.Whole(p); !sameOutcome(o, api.Outcome{}) || e != want {
				t.Errorf("Whole, %d of %d: %v, %d", i, want, o, e)
			}
		}
	}
}

func TestP6_1NothingIsDoneYet(t *testing.T) {
	for _, s := range []string{exampleP, exampleQ, "fuel 1; halt", "fuel 1024; fail r7", "fuel 1; jump 1"} {
		if a := look(machine(t, of(t, s))); a != (shown{}) {
			t.Errorf("%s: %+v", s, a)
		}
	}
}

// The list that is handed in is neither kept nor changed, nor the room behind it.
func TestP6_1KeepsNothing(t *testing.T) {
	p := of(t, exampleP)
	room := slices.Clone(append(p.Code, api.Ins{Op: 77}))
	mine := api.Program{Fuel: 9, Code: room[:3]}
	m := machine(t, mine)
	outcome(t, mine)
	for i := range room {
		room[i] = api.Ins{Op: api.OpFail}
	}
	checkSteps(t, "kept", m, newModel(t, p))
	room = append(slices.Clone(p.Code), api.Ins{Op: 77})
	mine.Code = room[:3]
	machine(t, mine).Run(9)
	outcome(t, mine)
	if !same(mine, p) || room[3] != (api.Ins{Op: 77}) {
		t.Error(room)
	}
}

func TestP6_2Example(t *testing.T) {
	m := machine(t, of(t, exampleP))
	for i, want := range []interp.Act{{}, {Kind: interp.Emitted, Text: "3p-1"}, {}} {
		if told, e := m.Step(); told != want || e != api.OK || m.Over() != (i == 2) {
			t.Errorf("%d: %v, %d", i, told, e)
		}
	}
	if told, e := m.Step(); told != (interp.Act{}) || e != api.ErrInterpOver {
		t.Error(told, e)
	}
	if interp.None != 0 || interp.Emitted != 1 || interp.Wrote != 2 {
		t.Error("the kinds' numbers")
	}
}

// checkTold: what a program tells, by hand: its code, r0, its chunks, its pieces, how many it did, where it stands.
func checkTold(t *testing.T, s string, code int, bits, chunks, pieces string, steps, place int) {
	t.Helper()
	p := of(t, s)
	checkRun(t, p)
	o := outcome(t, p)
	want := api.Outcome{Chunks: strings.Fields(chunks), Pieces: strings.Fields(pieces), Steps: steps}
	want.Result.Code = code
	want.Result.Bits, _ = num.Parse(bits)
	if !sameOutcome(o, want) {
		t.Errorf("%s: %v, not %v", s, o, want)
	}
	m := machine(t, p)
	m.Run(math.MaxInt)
	if m.Place() != place || m.Done() != steps || !m.Over() || m.Result() != want.Result {
		t.Errorf("%s: at %d, not %d; %d done, %v", s, m.Place(), place, m.Done(), m.Result())
	}
}

func TestP6_4Examples(t *testing.T) {
	checkTold(t, exampleP, 0, "3p-1", "3p-1", "", 3, 3)
	checkTold(t, exampleQ, api.TrapFuel, "0", "", "0 0", 5, 2)
	checkTold(t, "fuel 9; ret", api.TrapEmpty, "0", "", "", 1, 0)
	checkTold(t, "fuel 9; set r0 nan; if r0 3; fail r0", 0, "nan", "", "", 2, 3)
	checkTold(t, "fuel 9; set r0 1p-1; goto r0", api.TrapJump, "0", "", "", 2, 1)
	checkTold(t, "fuel 100; emit r0; jump 0", api.TrapChunks, "0", strings.Repeat("0 ", 32), "", 65, 0)
}

// Each op of two or three registers, at pairs of numbers: none changes what it reckons of, but where that is A.
func TestP6_2Reckoning(t *testing.T) {
	for _, word := range strings.Fields("add sub mul div min max less order") {
		for _, b := range someNumbers() {
			for _, c := range someNumbers() {
				checkRun(t, of(t, "fuel 9; set r1 "+b+"; set r2 "+c+"; "+word+" r0 r1 r2"))
			}
		}
	}
	for _, word := range strings.Fields("move neg abs floor") {
		for _, b := range someNumbers() {
			checkRun(t, of(t, "fuel 9; set r5 "+b+"; "+word+" r7 r5; move r0 r7"))
		}
	}
}

// The same by hand, so that not all hangs on the model.
func TestP6_2ReckoningByHand(t *testing.T) {
	for s, want := range map[string]string{
		"move r0 r1": "3p0", "add r0 r1 r2": "1p0", "sub r0 r1 r2": "5p0", "mul r0 r1 r2": "-3p1", "div r0 r1 r2": "-3p-1", "min r0 r1 r2": "-1p1", "max r0 r1 r2": "3p0",
		"less r0 r1 r2": "0", "less r0 r2 r1": "1p0", "less r0 r1 r1": "0", "less r0 r3 r4": "0", "less r0 r5 r1": "0", "less r0 r1 r5": "0",
		"order r0 r1 r2": "1p0", "order r0 r2 r1": "-1p0", "order r0 r1 r1": "0", "order r0 r3 r4": "-1p0", "order r0 r4 r3": "1p0", "order r0 r5 r5": "0", "order r0 r1 r5": "-1p0",
		"neg r0 r1": "-3p0", "neg r0 r4": "-0", "abs r0 r2": "1p1", "abs r0 r1": "3p0", "abs r0 r3": "0", "floor r0 r6": "-1p0", "floor r0 r1": "3p0",
		"add r0 r0 r1": "3p0", "add r0 r1 r5": "nan", "neg r0 r5": "nan", "abs r0 r5": "nan", "floor r0 r5": "nan", "min r0 r1 r5": "nan", "max r0 r5 r1": "nan",
		"div r0 r1 r4": "inf", "div r0 r1 r3": "-inf", "div r0 r3 r4": "nan", "min r0 r4 r3": "-0", "max r0 r3 r4": "0", "move r0 r3": "-0", "sub r0 r3 r4": "-0", "mul r0 r3 r2": "0",
	} {
		checkTold(t, "fuel 99; set r1 3p0; set r2 -1p1; set r3 -0; set r5 nan; set r6 -1p-1; "+s, 0, want, "", "", 6, 6)
	}
}

func TestP6_2Jumps(t *testing.T) {
	checkTold(t, "fuel 9; jump 2; fail r0; emit r0", 0, "0", "0", "", 2, 3)
	checkTold(t, "fuel 9; jump 1", 0, "0", "", "", 1, 1)
	checkTold(t, "fuel 3; jump 0", api.TrapFuel, "0", "", "", 3, 0)
	for _, zero := range []string{"0", "-0"} {
		checkTold(t, "fuel 9; set r3 "+zero+"; if r3 0; emit r3", 0, "0", zero, "", 3, 3)
	}
	for _, none := range []string{"1p0", "-1p0", "1p-1074", "-1p-1074", "inf", "-inf", "nan"} {
		checkTold(t, "fuel 9; set r3 "+none+"; if r3 3; fail r3; emit r3", 0, "0", none, "", 3, 4)
		checkTold(t, "fuel 9; set r3 "+none+"; if r3 2", 0, "0", "", "", 2, 2)
	}
}

func TestP6_2Goto(t *testing.T) {
	for to, place := range map[string]int{"3p0": 3, "1p2": 4, "5p0": 5} {
		p := of(t, "fuel 2; set r6 "+to+"; goto r6; fail r0; fail r1; fail r2")
		m := machine(t, p)
		m.Run(2)
		if m.Place() != place || m.Over() != true || m.Done() != 2 {
			t.Errorf("%s: %d", to, m.Place())
		}
		checkRun(t, p)
	}
	for _, to := range []string{"0", "-0"} {
		checkTold(t, "fuel 3; set r0 "+to+"; goto r0", api.TrapFuel, "0", "", "", 3, 1)
	}
	checkTold(t, "fuel 9; set r0 1p1; goto r0", 0, "1p1", "", "", 2, 2)
	for _, to := range []string{"3p0", "-1p0", "1p-1", "-1p-1074", "3p-1", "inf", "-inf", "nan", "1p62", "1p63", "-1p63", "1p64", "1p32", "1p1023"} {
		checkTold(t, "fuel 9; set r0 "+to+"; goto r0", api.TrapJump, "0", "", "", 2, 1)
	}
	checkTold(t, "fuel 9; goto r1", api.TrapFuel, "0", "", "", 9, 0)
	full := "fuel 9; set r0 1p6; goto r0" + strings.Repeat("; halt", 62)
	checkTold(t, full, 0, "1p6", "", "", 2, 64)
	checkTold(t, strings.Replace(full, "1p6", "65p0", 1), api.TrapJump, "0", "", "", 2, 1)
}

func TestP6_2CallsAndReturns(t *testing.T) {
	checkTold(t, "fuel 9; call 3; emit r0; halt; set r0 1p0; ret", 0, "1p0", "1p0", "", 5, 3)
	checkTold(t, "fuel 9; call 2; emit r0; ret", api.TrapEmpty, "0", "0", "", 4, 2)
	checkTold(t, "fuel 9; jump 3; emit r0; ret; call 1", 0, "0", "0", "", 4, 4)
	checkTold(t, "fuel 9; call 1", 0, "0", "", "", 1, 1)
	checkTold(t, "fuel 9; call 0", api.TrapStack, "0", "", "", 9, 0)
	checkTold(t, "fuel 8; call 0", api.TrapFuel, "0", "", "", 8, 0)
	checkTold(t, "fuel 99; call 0", api.TrapStack, "0", "", "", 9, 0)
	// Eight calls, each within the one ahead of it, are returned from in the other order; one more is too many.
	nested := "fuel 99; set r1 1p0; jump 23"
	for i := range 7 {
		nested += "; call " + strconv.Itoa(3*i+5) + "; add r0 r0 r1; ret"
	}
	checkTold(t, nested+"; call 2; emit r0", api.TrapStack, "0", "", "", 11, 23)
	checkTold(t, strings.Replace(nested, "jump 23", "jump 24", 1)+"; ret; call 2; emit r0", 0, "7p0", "7p0", "", 26, 26)
}

func TestP6_2Stack(t *testing.T) {
	checkTold(t, "fuel 9; set r1 1p0; set r2 1p1; push r1; push r2; pop r3; pop r4; emit r3; emit r4", 0, "0", "1p1 1p0", "", 8, 8)
	checkTold(t, "fuel 9; pop r0", api.TrapEmpty, "0", "", "", 1, 0)
	checkTold(t, "fuel 9; push r0; pop r0; pop r0", api.TrapEmpty, "0", "", "", 3, 2)
	checkTold(t, "fuel 99"+strings.Repeat("; push r0", 8), 0, "0", "", "", 8, 8)
	checkTold(t, "fuel 99"+strings.Repeat("; push r0", 9), api.TrapStack, "0", "", "", 9, 8)
	checkTold(t, "fuel 99; push r0; call 0", api.TrapStack, "0", "", "", 17, 0)
	for _, k := range []string{"nan", "-0", "inf", "1p-1074"} {
		checkTold(t, "fuel 9; set r1 "+k+"; push r1; set r1 1p0; pop r0", 0, k, "", "", 4, 4)
	}
	// The two stacks have nothing to do with each other.
	checkTold(t, "fuel 9; push r0; ret", api.TrapEmpty, "0", "", "", 2, 1)
	checkTold(t, "fuel 9; call 1; pop r0", api.TrapEmpty, "0", "", "", 2, 1)
	checkTold(t, "fuel 99"+strings.Repeat("; push r0", 8)+"; call 9; call 10; ret", api.TrapEmpty, "0", "", "", 15, 10)
}

func TestP6_2Tells(t *testing.T) {
	for _, k := range someNumbers() {
		checkTold(t, "fuel 9; set r6 "+k+"; emit r6; write r6", 0, "0", k, k, 3, 3)
	}
	checkTold(t, "fuel 100; write r0; jump 0", api.TrapPieces, "0", "", strings.Repeat("0 ", 16), 33, 0)
	checkTold(t, "fuel 99"+strings.Repeat("; emit r0", 32), 0, "0", strings.Repeat("0 ", 32), "", 32, 32)
	checkTold(t, "fuel 99"+strings.Repeat("; emit r0", 33), api.TrapChunks, "0", strings.Repeat("0 ", 32), "", 33, 32)
	checkTold(t, "fuel 99"+strings.Repeat("; write r0", 16), 0, "0", "", strings.Repeat("0 ", 16), 16, 16)
	checkTold(t, "fuel 99"+strings.Repeat("; write r0", 17), api.TrapPieces, "0", "", strings.Repeat("0 ", 16), 17, 16)
	// Neither counts for the other.
	both := "fuel 99" + strings.Repeat("; emit r0", 32) + strings.Repeat("; write r0", 16)
	checkTold(t, both, 0, "0", strings.Repeat("0 ", 32), strings.Repeat("0 ", 16), 48, 48)
	checkTold(t, both+"; emit r0", api.TrapChunks, "0", strings.Repeat("0 ", 32), strings.Repeat("0 ", 16), 49, 48)
	checkTold(t, both+"; write r0", api.TrapPieces, "0", strings.Repeat("0 ", 32), strings.Repeat("0 ", 16), 49, 48)
}

func TestP6_2FailAndHalt(t *testing.T) {
	checkTold(t, "fuel 9; set r0 1p0; fail r0; emit r0", api.TrapFail, "0", "", "", 2, 1)
	checkTold(t, "fuel 9; set r0 1p0; halt; emit r0", 0, "1p0", "", "", 2, 2)
	checkTold(t, "fuel 9; emit r0; halt", 0, "0", "0", "", 2, 2)
	checkTold(t, "fuel 9; halt", 0, "0", "", "", 1, 1)
}

// Which end it is, where several would do: the instruction's own, then the end of the program, then the fuel's.
func TestP6_2WhichEnd(t *testing.T) {
	checkTold(t, "fuel 1; halt; halt", 0, "0", "", "", 1, 1)
	checkTold(t, "fuel 1; fail r0; halt", api.TrapFail, "0", "", "", 1, 0)
	checkTold(t, "fuel 1; ret", api.TrapEmpty, "0", "", "", 1, 0)
	checkTold(t, "fuel 1; emit r0", 0, "0", "0", "", 1, 1)
	checkTold(t, "fuel 1; emit r0; halt", api.TrapFuel, "0", "0", "", 1, 1)
	checkTold(t, "fuel 2; set r0 1p0; jump 2", 0, "1p0", "", "", 2, 2)
	checkTold(t, "fuel 2; set r0 1p0; jump 3; halt", 0, "1p0", "", "", 2, 3)
	checkTold(t, "fuel 2; set r0 1p0; jump 2; halt", api.TrapFuel, "0", "", "", 2, 2)
	checkTold(t, "fuel 2; set r0 3p0; goto r0; halt", 0, "3p0", "", "", 2, 3)
	checkTold(t, "fuel 1; call 1", 0, "0", "", "", 1, 1)
	checkTold(t, "fuel 33"+strings.Repeat("; emit r0", 34), api.TrapChunks, "0", strings.Repeat("0 ", 32), "", 33, 32)
	checkTold(t, "fuel 32"+strings.Repeat("; emit r0", 34), api.TrapFuel, "0", strings.Repeat("0 ", 32), "", 32, 32)
	checkTold(t, "fuel 1024; jump 0", api.TrapFuel, "0", "", "", 1024, 0)
	checkTold(t, "fuel 1023; jump 0", api.TrapFuel, "0", "", "", 1023, 0)
}

// A trap counts as done, and changes nothing: what each trap finds stands behind it as it was.
func TestP6_2TrapsChangeNothing(t *testing.T) {
	first := "fuel 999; set r0 1p0; set r1 1p-1; set r2 -0; set r3 nan; set r7 inf; "
	for end, code := range map[string]int{
		"ret": api.TrapEmpty, "pop r0": api.TrapEmpty, "pop r7": api.TrapEmpty, "goto r1": api.TrapJump, "goto r3": api.TrapJump, "goto r7": api.TrapJump, "fail r0": api.TrapFail, "fail r3": api.TrapFail,
	} {
		m := machine(t, of(t, first+end+"; halt"))
		m.Run(5)
		was := look(m)
		told, e := m.Step()
		was.Over, was.Result, was.Done = true, api.Result{Code: code}, 6
		if told != (interp.Act{}) || e != api.OK || look(m) != was {
			t.Errorf("%s: %v, %d, %+v", end, told, e, look(m))
		}
	}
	for end, code := range map[string]int{"push r0; jump 5": api.TrapStack, "call 5": api.TrapStack, "emit r0; jump 5": api.TrapChunks, "write r0; jump 5": api.TrapPieces} {
		w := checkRun(t, of(t, first+end))
		if w.code != code {
			t.Errorf("%s: %d", end, w.code)
		}
	}
}

func TestP6_2Run(t *testing.T) {
	p := of(t, "fuel 50; emit r0; write r1; add r0 r0 r2; set r2 1p0; jump 0")
	for _, most := range []int{math.MinInt, -5, -1, 0} {
		m := machine(t, p)
		if l := m.Run(most); len(l) != 0 || look(m) != (shown{}) {
			t.Error(most, l, look(m))
		}
	}
	for _, most := range []int{1, 2, 3, 4, 5, 6, 7, 49, 50, 51, 1000, math.MaxInt} {
		checkRuns(t, p, most)
		checkRuns(t, of(t, exampleP), most)
		checkRuns(t, of(t, "fuel 99; emit r0; fail r0"), most)
		checkRuns(t, of(t, "fuel 99; emit r0; write r0; halt; emit r0"), most)
	}
}

// checkRuns: Run again and again, so many at a time.
func checkRuns(t *testing.T, p api.Program, most int) {
	t.Helper()
	m, w := machine(t, p), newModel(t, p)
	for range 2 + w.fuel/most {
		var want []interp.Act
		for i := 0; i < most && !w.over; i++ {
			if told := w.step(); told.Kind != 0 {
				want = append(want, told)
			}
		}
		if l := m.Run(most); !slices.Equal(l, want) || look(m) != w.look() {
			t.Fatalf("%s: %d at a time: %v, not %v; %+v, not %+v", text(p), most, l, want, look(m), w.look())
		}
	}
}

// Lists that were answered are the caller's: what is done to them shows nowhere.
func TestP6_2AndP6_4Memory(t *testing.T) {
	p := of(t, "fuel 50; emit r0; write r1; add r0 r0 r2; set r2 1p0; jump 0")
	m := machine(t, p)
	l := m.Run(7)
	for i := range l[:cap(l)] {
		l[:cap(l)][i] = interp.Act{Kind: 7, Text: "x"}
	}
	w := newModel(t, p)
	for range 7 {
		w.step()
	}
	checkSteps(t, "a list that was changed", m, w)
	o := outcome(t, p)
	_, _ = append(o.Chunks, "x"), append(o.Pieces, "y")
	for _, l := range [][]string{o.Chunks[:cap(o.Chunks)], o.Pieces[:cap(o.Pieces)]} {
		for i := range l {
			l[i] = "x"
		}
	}
	checkRun(t, p)
	o = outcome(t, p)
	for i := range o.Chunks[:cap(o.Chunks)] {
		o.Chunks[:cap(o.Chunks)][i] = "x"
	}
	if !slices.Equal(o.Pieces, outcome(t, p).Pieces) {
		t.Error(o)
	}
}

func TestP6_3Registers(t *testing.T) {
	m := machine(t, of(t, "fuel 9; set r0 1p0; set r1 1p1; set r2 1p2; set r3 1p3; set r4 1p4; set r5 1p5; set r6 1p6; set r7 1p7"))
	m.Run(8)
	for i := range 8 {
		if m.Reg(i) != num.Of(1<<i) {
			t.Errorf("%d: %x", i, m.Reg(i))
		}
	}
	for _, i := range []int{math.MinInt, -9, -8, -1, 8, 9, 16, 256, 1 << 32, math.MaxInt} {
		if m.Reg(i) != 0 {
			t.Errorf("%d: %x", i, m.Reg(i))
		}
	}
}

// Before the end the result is the zero one, whatever r0 holds.
func TestP6_3ResultBeforeTheEnd(t *testing.T) {
	m := machine(t, of(t, "fuel 9; set r0 1p0; set r0 nan; jump 3; halt"))
	for i := range 3 {
		m.Step()
		if m.Over() || m.Result() != (api.Result{}) || m.Done() != i+1 || m.Place() != i+1 {
			t.Errorf("%d: %+v", i, look(m))
		}
	}
	m.Step()
	if !m.Over() || m.Result() != (api.Result{Bits: 0x7ff8000000000001}) || m.Done() != 4 || m.Place() != 4 {
		t.Errorf("%+v", look(m))
	}
}

// What a machine shows hangs on nothing but its own calls.
func TestP6_3TwoOfOneProgram(t *testing.T) {
	rnd := source(63)
	for range 200 {
		p := anyProgram(rnd, allWords())
		a, b := machine(t, p), machine(t, p)
		v, w := newModel(t, p), newModel(t, p)
		a.Run(5)
		for i := 0; i < 5 && !v.over; i++ {
			v.step()
		}
		checkSteps(t, text(p), b, w)
		checkSteps(t, text(p), a, v)
	}
}

// Clones: at each step one goes to the end ahead of the machine, another one behind it.
func TestP6_3Clones(t *testing.T) {
	rnd := source(64)
	for range 150 {
		p := anyProgram(rnd, but("fail", "halt", "ret", "pop"))
		if rnd.IntN(2) == 0 {
			p = anyProgram(rnd, strings.Fields("push pop call ret emit write set if jump add"))
		}
		p.Fuel = min(p.Fuel, 60)
		m, w := machine(t, p), newModel(t, p)
		for {
			early, late := m.Clone(), m.Clone()
			then := w.clone()
			if look(early) != w.look() || look(late) != w.look() {
				t.Fatalf("%s: %+v", text(p), look(early))
			}
			checkSteps(t, text(p), early, w.clone())
			if w.over {
				break
			}
			want := w.step()
			if told, e := m.Step(); told != want || e != api.OK || look(m) != w.look() {
				t.Fatalf("%s: %v, %d", text(p), told, e)
			}
			checkSteps(t, text(p), late, then)
		}
	}
}

func TestP6_3ClonesStacks(t *testing.T) {
	p := of(t, "fuel 99; set r1 1p0; push r1; push r2; call 4; pop r3; pop r4; push r3; push r4; pop r5; ret")
	m, w := machine(t, p), newModel(t, p)
	for range 4 {
		m.Step()
		w.step()
	}
	c := m.Clone()
	d := c.Clone()
	m.Run(3)
	for _, x := range []*interp.Machine{c, d} {
		checkSteps(t, "a clone", x, w.clone())
	}
	for range 3 {
		w.step()
	}
	checkSteps(t, "behind its clones", m, w)
}
