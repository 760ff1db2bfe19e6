// Package num is layer 1: the numbers that jobs' programs reckon with. See shared/doc/01-num.md.
package num

import (
	"math"

	"gaffer/api"
)

const (
	signBit = 1 << 63            // 1: below 0
	mBits   = 52                 // width of the field m
	mAll    = 1<<mBits - 1       // the greatest m
	xAll    = 0x7ff              // the greatest x: an infinity, or no number
	oneNaN  = 0x7ff8000000000001 // the NaN that stands for all of them
)

// Canon: a number, with one NaN.
func Canon(a uint64) uint64 {
	if Class(a) == api.ClassNaN {
		return oneNaN
	}
	return a
}

// Class: its class.
func Class(a uint64) int {
	x, m := fields(a)
	switch {
	case x == xAll && m != 0:
		return api.ClassNaN
	case x == xAll:
		return api.ClassInf
	case x == 0 && m == 0:
		return api.ClassZero
	case x == 0:
		return api.ClassTiny
	}
	return api.ClassPlain
}

// Add: the sum.
func Add(a, b uint64) uint64 {
	return bitsOf(floatOf(a) + floatOf(b))
}

// Sub: the difference.
func Sub(a, b uint64) uint64 {
	return Add(a, Neg(b))
}

// Mul: the product.
func Mul(a, b uint64) uint64 {
	// The conversion forbids fusing this product into a sum of the caller's, which would leave out one of the two roundings.
	return bitsOf(float64(floatOf(a) * floatOf(b)))
}

// Div: the quotient.
func Div(a, b uint64) uint64 {
	return bitsOf(floatOf(a) / floatOf(b))
}

// Neg: with the other sign.
func Neg(a uint64) uint64 {
	// A NaN's sign must not come through: it may not be told apart from the one NaN.
	return Canon(a ^ signBit)
}

// Abs: without a sign.
func Abs(a uint64) uint64 {
	return Canon(a &^ signBit)
}

// fields: the fields x and m of a number.
func fields(a uint64) (x, m uint64) {
	return a >> mBits & xAll, a & mAll
}

func floatOf(a uint64) float64 {
	return math.Float64frombits(a)
}

// bitsOf is the one way back from floats: which NaN an operation makes hangs on the machine, so none leaves without Canon.
func bitsOf(f float64) uint64 {
	return Canon(math.Float64bits(f))
}
