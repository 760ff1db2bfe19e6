package num

import (
	"math"
	"math/bits"
	"strconv"
	"strings"

	"gaffer/api"
)

const (
	leastPower  = -1074 // of the lowest bit that a number can have
	endPower    = 1024  // no amount reaches 2 to this power
	oddEnd      = 1 << (mBits + 1)
	oddDigits   = 16 // as many as oddEnd has
	powerLength = 5  // as many bytes as the text of leastPower has
)

// Text: its text.
func Text(a uint64) string {
	a = Canon(a)
	if a&signBit != 0 {
		return "-" + amountText(a&^signBit)
	}
	return amountText(a)
}

// Parse: the number of a text.
func Parse(s string) (uint64, api.Errno) {
	if s == "nan" {
		return oneNaN, api.OK
	}
	amount, below := strings.CutPrefix(s, "-")
	a, e := parseAmount(amount)
	if e != api.OK {
		return 0, e
	}
	if below {
		a |= signBit
	}
	return a, api.OK
}

// amountText: the text of one whose sign is 0.
func amountText(a uint64) string {
	switch Class(a) {
	case api.ClassNaN:
		return "nan"
	case api.ClassInf:
		return "inf"
	case api.ClassZero:
		return "0"
	}
	odd, power := oddAndPower(a)
	return strconv.FormatUint(odd, 10) + "p" + strconv.Itoa(power)
}

// oddAndPower: of a finite one that is no zero: its amount is odd times 2^power.
func oddAndPower(a uint64) (odd uint64, power int) {
	x, m := fields(a)
	odd, power = m, leastPower
	if x != 0 {
		odd, power = m|1<<mBits, leastPower+int(x)-1
	}
	zeros := bits.TrailingZeros64(odd)
	return odd >> zeros, power + zeros
}

// parseAmount: the number of a text that has no sign.
func parseAmount(s string) (uint64, api.Errno) {
	switch s {
	case "inf":
		return xAll << mBits, api.OK
	case "0":
		return 0, api.OK
	}
	odd, power, found := strings.Cut(s, "p")
	if !found || !isOdd(odd) || !isPower(power) {
		return 0, api.ErrNumText
	}
	// Longer ones are no number's; the shorter ones fit into an int, so that strconv can't refuse them.
	if len(odd) > oddDigits || len(power) > powerLength {
		return 0, api.ErrNumRange
	}
	n, _ := strconv.ParseUint(odd, 10, 64)
	k, _ := strconv.Atoi(power)
	// No even factor can be moved from n into the power: each of its bits must have a place of its own.
	if n >= oddEnd || k < leastPower || k+bits.Len64(n) > endPower {
		return 0, api.ErrNumRange
	}
	return bitsOf(math.Ldexp(float64(n), k)), api.OK
}

// isWhole: is it a whole number in decimal digits, without a nought ahead?
func isWhole(s string) bool {
	for i := range len(s) {
		if s[i] < '0' || s[i] > '9' {
			return false
		}
	}
	return s == "0" || s != "" && s[0] != '0'
}

func isOdd(s string) bool {
	return isWhole(s) && (s[len(s)-1]-'0')%2 == 1
}

func isPower(s string) bool {
	amount, below := strings.CutPrefix(s, "-")
	return isWhole(amount) && !(below && amount == "0")
}
