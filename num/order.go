package num

import (
	"cmp"

	"gaffer/api"
)

// Less: is a below b?
func Less(a, b uint64) bool {
	return floatOf(a) < floatOf(b)
}

// Equal: are the values the same?
func Equal(a, b uint64) bool {
	return floatOf(a) == floatOf(b)
}

// Order: how two stand.
func Order(a, b uint64) int {
	return cmp.Compare(rank(a), rank(b))
}

// Min: the lesser one.
func Min(a, b uint64) uint64 {
	if anyNaN(a, b) {
		return oneNaN
	}
	if Order(a, b) > 0 {
		return b
	}
	return a
}

// Max: the greater one.
func Max(a, b uint64) uint64 {
	if anyNaN(a, b) {
		return oneNaN
	}
	if Order(a, b) < 0 {
		return b
	}
	return a
}

func anyNaN(a, b uint64) bool {
	return Class(a) == api.ClassNaN || Class(b) == api.ClassNaN
}

// rank rises as numbers do in Order: floats can't tell the zeros apart, nor place a NaN, but the bits rise with the amount, and those of the one NaN stand above the infinity's.
func rank(a uint64) uint64 {
	a = Canon(a)
	if a&signBit != 0 {
		return ^a
	}
	return a | signBit
}
