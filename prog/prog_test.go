package prog_test

import (
	"math"
	"slices"
	"testing"

	"gaffer/api"
	"gaffer/prog"
)

func TestP5_1Examples(t *testing.T) {
	for i, x := range []struct {
		turn func(p *api.Program)
		e    api.Errno
		at   int
	}{
		{func(p *api.Program) {}, api.OK, 0},
		{func(p *api.Program) { p.Fuel = 0 }, api.ErrProgFuel, 0},
		{func(p *api.Program) { p.Fuel = 1025 }, api.ErrProgFuel, 0},
		{func(p *api.Program) { p.Code = nil }, api.ErrProgMany, 0},
		{func(p *api.Program) { p.Code[2].N = 4 }, api.ErrProgJump, 2},
		{func(p *api.Program) { p.Code[1].A = 8 }, api.ErrProgReg, 1},
		{func(p *api.Program) { p.Code[1].B = 1 }, api.ErrProgForm, 1},
		{func(p *api.Program) { p.Code = slices.Insert(p.Code, 0, api.Ins{Op: 25}) }, api.ErrProgOp, 0},
	} {
		p := example()
		x.turn(&p)
		if e, at := prog.Check(p); e != x.e || at != x.at {
			t.Errorf("%d: %d at %d, not %d at %d", i, e, at, x.e, x.at)
		}
	}
}

func TestP5_1Fuel(t *testing.T) {
	for _, fuel := range []int{math.MinInt, -1 << 40, -1, 0, 1, 2, 9, 1023, 1024, 1025, 1 << 32, math.MaxInt} {
		p := example()
		p.Fuel = fuel
		checkCheck(t, p)
		p.Code[0].Op = 0
		checkCheck(t, p)
		p.Code = nil
		checkCheck(t, p)
	}
}

func TestP5_1HowMany(t *testing.T) {
	for _, many := range []int{0, 1, 2, 63, 64, 65, 66, 128, 1000} {
		for _, op := range []int{api.OpHalt, 0, 25} {
			p := api.Program{Fuel: 1, Code: slices.Repeat([]api.Ins{{Op: op}}, many)}
			checkCheck(t, p)
		}
	}
	checkCheck(t, api.Program{Fuel: 1, Code: []api.Ins{}})
}

// fieldValues: what A, B, C and N are tried with in programs of three instructions.
func fieldValues() []int {
	return []int{math.MinInt, -1, 0, 1, 3, 4, 7, 8, 1 << 32, math.MaxInt}
}

func TestP5_1EachOpAndField(t *testing.T) {
	ops := []int{math.MinInt, -1, 0, 25, 26, 256 + 1, 1<<32 + 1, math.MaxInt}
	for _, o := range allOps() {
		ops = append(ops, o.number)
	}
	for _, op := range ops {
		for _, v := range fieldValues() {
			for _, x := range []api.Ins{{A: v}, {B: v}, {C: v}, {N: v}, {K: uint64(v)}} {
				x.Op = op
				checkCheck(t, api.Program{Fuel: 1, Code: []api.Ins{{Op: api.OpHalt}, x, {Op: api.OpHalt}}})
			}
		}
	}
}

// Of two fields that are wrong the first one is told, whatever is wrong with it.
func TestP5_1OrderOfFields(t *testing.T) {
	for _, o := range allOps() {
		for set := range 1 << 5 {
			for _, wrong := range []int{8, -1} {
				x := api.Ins{Op: o.number}
				for i, into := range []*int{&x.A, &x.B, &x.C, &x.N} {
					if set>>i&1 == 1 {
						*into = wrong
					}
				}
				if set>>4&1 == 1 {
					x.K = oneNaN + 1
				}
				checkCheck(t, api.Program{Fuel: 1, Code: []api.Ins{x}})
			}
		}
	}
	for _, x := range []struct {
		ins api.Ins
		e   api.Errno
	}{
		{api.Ins{Op: api.OpIf, A: 8, N: 9}, api.ErrProgReg},
		{api.Ins{Op: api.OpIf, B: 1, N: 9}, api.ErrProgForm},
		{api.Ins{Op: api.OpIf, N: 9, K: 1}, api.ErrProgJump},
		{api.Ins{Op: api.OpJump, A: 1, N: 9}, api.ErrProgForm},
		{api.Ins{Op: api.OpMove, A: 1, B: 8, C: 1}, api.ErrProgReg},
		{api.Ins{Op: api.OpSet, A: 8, K: oneNaN + 1}, api.ErrProgReg},
		{api.Ins{Op: 25, A: 8, N: 9, K: 1}, api.ErrProgOp},
	} {
		if e, _ := prog.Check(api.Program{Fuel: 1, Code: []api.Ins{x.ins}}); e != x.e {
			t.Errorf("%v: %d, not %d", x.ins, e, x.e)
		}
	}
}

func TestP5_1Numbers(t *testing.T) {
	for _, o := range allOps() {
		for _, k := range append(someBits(), otherNaNs()...) {
			checkCheck(t, api.Program{Fuel: 1, Code: []api.Ins{{Op: o.number, K: k}}})
		}
	}
}

func TestP5_1Places(t *testing.T) {
	for _, many := range []int{1, 2, 63, 64} {
		for _, op := range []int{api.OpJump, api.OpIf, api.OpCall, api.OpGoto} {
			for _, n := range []int{-1, 0, 1, many - 1, many, many + 1, 64, 65} {
				p := api.Program{Fuel: 1, Code: slices.Repeat([]api.Ins{{Op: api.OpRet}}, many)}
				p.Code[many-1] = api.Ins{Op: op, N: n}
				checkCheck(t, p)
			}
		}
	}
}

// Of several instructions the first one that is wrong is told.
func TestP5_1FirstInstruction(t *testing.T) {
	wrong := []api.Ins{{Op: 0}, {Op: api.OpEmit, A: -1}, {Op: api.OpCall, N: 7}, {Op: api.OpHalt, K: 1}, {Op: api.OpHalt}}
	for i := range wrong {
		for j := range wrong {
			for k := range wrong {
				checkCheck(t, api.Program{Fuel: 1, Code: []api.Ins{wrong[i], wrong[j], wrong[k], {Op: api.OpRet}}})
			}
		}
	}
}

// anyNearly: a program that may be, turned in a place or two.
func anyNearly(seed uint64) api.Program {
	rnd := source(seed)
	p := anyProgram(rnd)
	for range rnd.IntN(3) {
		x := &p.Code[rnd.IntN(len(p.Code))]
		v := []int{-1, 0, 1, 7, 8, 24, 25, len(p.Code), len(p.Code) + 1}[rnd.IntN(9)]
		switch rnd.IntN(7) {
		case 0:
			x.Op = v
		case 1:
			x.A = v
		case 2:
			x.B = v
		case 3:
			x.C = v
		case 4:
			x.N = v
		case 5:
			x.K = append(someBits(), otherNaNs()...)[rnd.IntN(len(someBits())+len(otherNaNs()))]
		case 6:
			p.Fuel = []int{v, 1024, 1025}[rnd.IntN(3)]
		}
	}
	return p
}

func TestP5_1AnyPrograms(t *testing.T) {
	for seed := range uint64(20000) {
		checkCheck(t, anyNearly(seed))
	}
}

// What is told of a place holds: all ahead of it may be.
func TestP5_4AheadOfThePlace(t *testing.T) {
	told := 0
	for seed := range uint64(20000) {
		p := anyNearly(seed)
		e, at := prog.Check(p)
		if e == api.OK || e == api.ErrProgFuel || e == api.ErrProgMany {
			continue
		}
		told++
		for i := at; i < len(p.Code); i++ {
			p.Code[i] = api.Ins{Op: api.OpHalt}
		}
		if f, place := prog.Check(p); f != api.OK || place != 0 {
			t.Fatalf("%d at %d, but then %d at %d", e, at, f, place)
		}
	}
	if told < 1000 {
		t.Error(told)
	}
}

func TestR4HandedInCodeIsLeft(t *testing.T) {
	room := make([]api.Ins, 80)
	for i := range room {
		room[i] = api.Ins{Op: api.OpSet, A: i % 8, K: uint64(i)}
	}
	kept := slices.Clone(room)
	for _, many := range []int{0, 1, 64, 65} {
		p := api.Program{Fuel: 1, Code: room[:many]}
		prog.Check(p)
		prog.Print(p)
		prog.Pack(p)
		if !slices.Equal(room, kept) {
			t.Fatal(many)
		}
	}
}

func TestR4AnswersAreNewMemory(t *testing.T) {
	text, _ := prog.Print(example())
	bytes, _ := prog.Pack(example())
	for range 2 {
		p, _, _ := prog.Parse(text)
		q, _ := prog.Unpack(bytes)
		if !same(p, example()) || !same(q, example()) {
			t.Fatal(p, q)
		}
		for _, l := range [][]api.Ins{p.Code, q.Code} {
			l = l[:cap(l)]
			for i := range l {
				l[i] = api.Ins{Op: 99}
			}
		}
	}
}
