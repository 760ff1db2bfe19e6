package prog

import (
	"slices"

	"gaffer/api"
)

// allFields: the letters of the fields, in the order in which they are looked at. It is the order of each op's own ones, too.
const allFields = "ABCNK"

// mostFields: no op has more.
const mostFields = 3

// shape: an op, its word, the letters of its fields.
type shape struct {
	op     int
	word   string
	fields string
}

// shapes: the chapter's table.
func shapes() []shape {
	return []shape{
		{api.OpSet, "set", "AK"},
		{api.OpMove, "move", "AB"},
		{api.OpAdd, "add", "ABC"},
		{api.OpSub, "sub", "ABC"},
		{api.OpMul, "mul", "ABC"},
		{api.OpDiv, "div", "ABC"},
		{api.OpMin, "min", "ABC"},
		{api.OpMax, "max", "ABC"},
		{api.OpLess, "less", "ABC"},
		{api.OpOrder, "order", "ABC"},
		{api.OpNeg, "neg", "AB"},
		{api.OpAbs, "abs", "AB"},
		{api.OpFloor, "floor", "AB"},
		{api.OpJump, "jump", "N"},
		{api.OpIf, "if", "AN"},
		{api.OpGoto, "goto", "A"},
		{api.OpCall, "call", "N"},
		{api.OpRet, "ret", ""},
		{api.OpPush, "push", "A"},
		{api.OpPop, "pop", "A"},
		{api.OpEmit, "emit", "A"},
		{api.OpWrite, "write", "A"},
		{api.OpFail, "fail", "A"},
		{api.OpHalt, "halt", ""},
	}
}

func shapeOf(op int) (shape, bool) {
	return findShape(func(s shape) bool { return s.op == op })
}

func shapeNamed(word string) (shape, bool) {
	return findShape(func(s shape) bool { return s.word == word })
}

func findShape(fits func(shape) bool) (shape, bool) {
	table := shapes()
	i := slices.IndexFunc(table, fits)
	if i < 0 {
		return shape{}, false
	}
	return table[i], true
}

// get and set hand all fields about as one kind of number, so that whoever goes through an op's letters need not tell them apart.
func get(ins api.Ins, letter rune) uint64 {
	switch letter {
	case 'A':
		return uint64(ins.A)
	case 'B':
		return uint64(ins.B)
	case 'C':
		return uint64(ins.C)
	case 'N':
		return uint64(ins.N)
	}
	return ins.K
}

func set(ins *api.Ins, letter rune, value uint64) {
	switch letter {
	case 'A':
		ins.A = int(value)
	case 'B':
		ins.B = int(value)
	case 'C':
		ins.C = int(value)
	case 'N':
		ins.N = int(value)
	default:
		ins.K = value
	}
}
