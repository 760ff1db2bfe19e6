package interp_test

import (
	"slices"
	"strings"
	"testing"

	"gaffer/api"
	"gaffer/interp"
	"gaffer/num"
)

// The whole against the model: random programs of all words, and of those that get far.
func TestP6_2AnyProgram(t *testing.T) {
	rnd := source(65)
	ends := map[int]int{}
	for i := range 12000 {
		words := allWords()
		switch i % 4 {
		case 1:
			words = but("fail", "halt", "goto")
		case 2:
			words = strings.Fields("set set push pop call ret emit write goto jump if if order add")
		case 3:
			words = but("fail", "halt", "goto", "ret", "pop")
		}
		ends[checkRun(t, anyProgram(rnd, words)).code]++
	}
	for code := range 8 {
		if ends[code] < 20 {
			t.Errorf("the end %d came %d times", code, ends[code])
		}
	}
}

// All rows of three of these instructions, at few fuels.
func TestP6_2ShortPrograms(t *testing.T) {
	l := of(t, "fuel 9; set r0 1p0; set r0 nan; set r1 3p0; sub r0 r0 r1; order r1 r0 r1; jump 0; jump 3; if r0 3; if r1 1; goto r0; goto r1; call 2; call 0; ret; push r0; pop r1; emit r0; write r1; fail r0; halt; move r1 r0").Code
	for _, a := range l {
		for _, b := range l {
			for _, c := range l {
				for _, fuel := range []int{2, 20} {
					checkRun(t, api.Program{Fuel: fuel, Code: []api.Ins{a, b, c}})
				}
			}
		}
	}
}

func TestP6_5Bounds(t *testing.T) {
	rnd := source(66)
	for range 4000 {
		p := anyProgram(rnd, but("fail", "halt", "ret", "pop", "goto"))
		m := machine(t, p)
		for !m.Over() && m.Done() <= p.Fuel {
			m.Step()
			for i := range 8 {
				if a := m.Reg(i); a != num.Canon(a) {
					t.Fatalf("%s: r%d is %x", text(p), i, a)
				}
			}
		}
		o := outcome(t, p)
		if !m.Over() || m.Done() > p.Fuel || o.Steps != m.Done() || o.Result != m.Result() || o.Steps < 1 {
			t.Fatalf("%s: %d of %d", text(p), m.Done(), p.Fuel)
		}
		if len(o.Chunks) > 32 || len(o.Pieces) > 16 {
			t.Fatalf("%s: %v", text(p), o)
		}
		for _, s := range slices.Concat(o.Chunks, o.Pieces) {
			if len(s) > 32 || len(s) == 0 {
				t.Fatalf("%s: %q", text(p), s)
			}
		}
	}
}

// begins: is one list a beginning of another?
func begins(a, b []string) bool {
	return len(a) <= len(b) && slices.Equal(a, b[:len(a)])
}

func TestP6_5MoreFuel(t *testing.T) {
	rnd := source(67)
	short := 0
	for range 4000 {
		p := anyProgram(rnd, but("halt"))
		o := outcome(t, p)
		for _, fuel := range []int{p.Fuel + 1, p.Fuel + 7, api.MaxFuel} {
			q := api.Program{Fuel: min(fuel, api.MaxFuel), Code: p.Code}
			more := outcome(t, q)
			if o.Result.Code != api.TrapFuel {
				if !sameOutcome(o, more) {
					t.Fatalf("%s: %v, with %d %v", text(p), o, q.Fuel, more)
				}
				continue
			}
			short++
			if !begins(o.Chunks, more.Chunks) || !begins(o.Pieces, more.Pieces) || more.Steps < o.Steps || q.Fuel > p.Fuel && more.Steps == o.Steps {
				t.Fatalf("%s: %v, with %d %v", text(p), o, q.Fuel, more)
			}
		}
	}
	if short < 300 {
		t.Error(short)
	}
}

// Without what jumps, each instruction is done once, in order, up to the end.
func TestP6_5Straight(t *testing.T) {
	rnd := source(68)
	for range 2000 {
		p := anyProgram(rnd, but("jump", "if", "goto", "call", "ret"))
		m := machine(t, p)
		for i := 0; !m.Over(); i++ {
			if m.Place() != i || m.Done() != i || i == len(p.Code) {
				t.Fatalf("%s: %+v", text(p), look(m))
			}
			m.Step()
		}
		o := outcome(t, p)
		if o.Result.Code == 0 && p.Code[o.Steps-1].Op != api.OpHalt && o.Steps != len(p.Code) {
			t.Fatalf("%s: %v", text(p), o)
		}
	}
}

// What is never done makes no difference.
func TestP6_5NeverDone(t *testing.T) {
	rnd := source(69)
	turned := 0
	for range 3000 {
		p := anyProgram(rnd, allWords())
		m := machine(t, p)
		done := map[int]bool{}
		for !m.Over() {
			done[m.Place()] = true
			m.Step()
		}
		q := api.Program{Fuel: p.Fuel, Code: slices.Clone(p.Code)}
		for i := range q.Code {
			if !done[i] {
				q.Code[i] = anyIns(rnd, allWords(), len(q.Code))
				turned++
			}
		}
		if a, b := outcome(t, p), outcome(t, q); !sameOutcome(a, b) {
			t.Fatalf("%s: %v; %s: %v", text(p), a, text(q), b)
		}
	}
	if turned < 3000 {
		t.Error(turned)
	}
}

// The registers but r0 change places, each for one.
func TestP6_5Names(t *testing.T) {
	rnd := source(70)
	fields := strings.Fields(allFields())
	for range 3000 {
		p := anyProgram(rnd, allWords())
		to := []int{0}
		for _, i := range rnd.Perm(7) {
			to = append(to, i+1)
		}
		q := api.Program{Fuel: p.Fuel, Code: slices.Clone(p.Code)}
		for i, x := range q.Code {
			named := fields[x.Op-1]
			for letter, reg := range map[string]*int{"A": &q.Code[i].A, "B": &q.Code[i].B, "C": &q.Code[i].C} {
				if strings.Contains(named, letter) {
					*reg = to[*reg]
				}
			}
		}
		if a, b := outcome(t, p), outcome(t, q); !sameOutcome(a, b) {
			t.Fatalf("%s: %v; %s: %v", text(p), a, text(q), b)
		}
		m, n := machine(t, p), machine(t, q)
		m.Run(p.Fuel)
		n.Run(p.Fuel)
		for i, j := range to {
			if m.Reg(i) != n.Reg(j) || m.Place() != n.Place() {
				t.Fatalf("%s; %s: r%d and r%d", text(p), text(q), i, j)
			}
		}
	}
}

// Step, Run and Whole tell the same, however Run is cut.
func TestP6_2RunsOfAnyProgram(t *testing.T) {
	rnd := source(71)
	for range 1500 {
		p := anyProgram(rnd, but("fail", "ret"))
		m := machine(t, p)
		var chunks, pieces []string
		for !m.Over() {
			most := rnd.IntN(9) - 1
			before := m.Done()
			for _, told := range m.Run(most) {
				switch told.Kind {
				case interp.Emitted:
					chunks = append(chunks, told.Text)
				case interp.Wrote:
					pieces = append(pieces, told.Text)
				default:
					t.Fatal(told)
				}
			}
			if did := m.Done() - before; did > max(most, 0) || did < max(most, 0) && !m.Over() {
				t.Fatalf("%s: %d, not %d", text(p), did, most)
			}
		}
		if o := outcome(t, p); !slices.Equal(o.Chunks, chunks) || !slices.Equal(o.Pieces, pieces) || o.Steps != m.Done() || o.Result != m.Result() {
			t.Fatalf("%s: %v", text(p), o)
		}
	}
}
