package interp

import (
	"gaffer/api"
	"gaffer/num"
)

// meaning: what an instruction of an op does. Just one of the three is there.
type meaning struct {
	two   func(b uint64) uint64             // what R[A] becomes of R[B]
	three func(b, c uint64) uint64          // what R[A] becomes of R[B] and R[C]
	does  func(m *Machine, ins api.Ins) Act // of those that do anything else
}

// meanings: by their ops, the chapter's table.
func meanings() [api.Ops]meaning {
	return [api.Ops]meaning{
		api.OpSet:   {does: (*Machine).set},
		api.OpMove:  {two: same},
		api.OpAdd:   {three: num.Add},
		api.OpSub:   {three: num.Sub},
		api.OpMul:   {three: num.Mul},
		api.OpDiv:   {three: num.Div},
		api.OpMin:   {three: num.Min},
		api.OpMax:   {three: num.Max},
		api.OpLess:  {three: less},
		api.OpOrder: {three: order},
		api.OpNeg:   {two: num.Neg},
		api.OpAbs:   {two: num.Abs},
		api.OpFloor: {two: num.Floor},
		api.OpJump:  {does: (*Machine).jump},
		api.OpIf:    {does: (*Machine).jumpIf},
		api.OpGoto:  {does: (*Machine).jumpTo},
		api.OpCall:  {does: (*Machine).call},
		api.OpRet:   {does: (*Machine).ret},
		api.OpPush:  {does: (*Machine).push},
		api.OpPop:   {does: (*Machine).pop},
		api.OpEmit:  {does: (*Machine).emit},
		api.OpWrite: {does: (*Machine).write},
		api.OpFail:  {does: (*Machine).fail},
		api.OpHalt:  {does: (*Machine).halt},
	}
}

// do: an instruction. It traps ahead of all that it changes.
func (m *Machine) do(ins api.Ins) Act {
	switch what := meanings()[ins.Op]; {
	case what.two != nil:
		m.regs[ins.A] = what.two(m.regs[ins.B])
		return Act{}
	case what.three != nil:
		m.regs[ins.A] = what.three(m.regs[ins.B], m.regs[ins.C])
		return Act{}
	default:
		return what.does(m, ins)
	}
}

func same(b uint64) uint64 {
	return b
}

func less(b, c uint64) uint64 {
	if num.Less(b, c) {
		return num.Of(1)
	}
	return num.Of(0)
}

func order(b, c uint64) uint64 {
	return num.Of(int64(num.Order(b, c)))
}

func (m *Machine) set(ins api.Ins) Act {
	m.regs[ins.A] = ins.K
	return Act{}
}

func (m *Machine) jump(ins api.Ins) Act {
	m.place = ins.N
	return Act{}
}

func (m *Machine) jumpIf(ins api.Ins) Act {
	if num.Class(m.regs[ins.A]) != api.ClassZero {
		m.place = ins.N
	}
	return Act{}
}

func (m *Machine) jumpTo(ins api.Ins) Act {
	n, e := num.Int(m.regs[ins.A])
	if e != api.OK || n < 0 || n > int64(len(m.code)) {
		panic(trap(api.TrapJump))
	}
	m.place = int(n)
	return Act{}
}

func (m *Machine) call(ins api.Ins) Act {
	m.places.push(m.place)
	m.place = ins.N
	return Act{}
}

func (m *Machine) ret(api.Ins) Act {
	m.place = m.places.pop()
	return Act{}
}

func (m *Machine) push(ins api.Ins) Act {
	m.numbers.push(m.regs[ins.A])
	return Act{}
}

func (m *Machine) pop(ins api.Ins) Act {
	m.regs[ins.A] = m.numbers.pop()
	return Act{}
}

func (m *Machine) emit(ins api.Ins) Act {
	if m.chunks == api.MaxChunks {
		panic(trap(api.TrapChunks))
	}
	m.chunks++
	return Act{Kind: Emitted, Text: num.Text(m.regs[ins.A])}
}

func (m *Machine) write(ins api.Ins) Act {
	if m.pieces == api.MaxPieces {
		panic(trap(api.TrapPieces))
	}
	m.pieces++
	return Act{Kind: Wrote, Text: num.Text(m.regs[ins.A])}
}

func (m *Machine) fail(api.Ins) Act {
	panic(trap(api.TrapFail))
}

func (m *Machine) halt(api.Ins) Act {
	m.over = true
	return Act{}
}
