package num_test

import (
	"math/big"
	"testing"

	"gaffer/api"
	"gaffer/num"
)

// What the tests hold the package against: the chapter's words in whole numbers and fractions, without a float.

const (
	nan     = 0x7ff8000000000001
	inf     = 0x7ff0000000000000
	sign    = 1 << 63
	zero    = 0
	one     = 0x3ff0000000000000
	tiniest = 1
	tinyMax = 0x000fffffffffffff
	plain0  = 0x0010000000000000 // 2^-1022
	most    = 0x7fefffffffffffff
)

func isNaN(a uint64) bool    { return a&^sign > inf }
func isInf(a uint64) bool    { return a&^sign == inf }
func isZero(a uint64) bool   { return a&^sign == 0 }
func isFinite(a uint64) bool { return a&^sign < inf }
func isBelow(a uint64) bool  { return a&sign != 0 }

// power: 2^k.
func power(k int) *big.Rat {
	if k < 0 {
		return new(big.Rat).Inv(power(-k))
	}
	return new(big.Rat).SetInt(new(big.Int).Lsh(big.NewInt(1), uint(k)))
}

// valueOf: the exact value of a finite number.
func valueOf(a uint64) *big.Rat {
	x, m := int(a>>52&2047), int64(a&(1<<52-1))
	v := new(big.Rat)
	if x == 0 {
		v.Mul(v.SetInt64(m), power(-1074))
	} else {
		v.Mul(v.SetInt64(1<<52+m), power(x-1075))
	}
	if isBelow(a) {
		v.Neg(v)
	}
	return v
}

// isRounded: is c what the exact value v, which isn't 0, is rounded to?
func isRounded(c uint64, v *big.Rat) bool {
	if isBelow(c) != (v.Sign() < 0) {
		return false
	}
	v = new(big.Rat).Abs(v)
	c &^= sign
	over := new(big.Rat).Sub(power(1024), power(970))
	if v.Cmp(over) >= 0 {
		return c == inf
	}
	return isFinite(c) && isNearest(c, v)
}

// isNearest: of the finite numbers from 0 on, is none nearer to v, nor one as near that is even?
func isNearest(c uint64, v *big.Rat) bool {
	off := distance(c, v)
	for _, other := range []uint64{c - 1, c + 1} {
		if !isFinite(other) || isBelow(other) {
			continue
		}
		d := off.Cmp(distance(other, v))
		if d > 0 || d == 0 && c%2 != 0 {
			return false
		}
	}
	return true
}

func distance(a uint64, v *big.Rat) *big.Rat {
	d := valueOf(a)
	return d.Abs(d.Sub(d, v))
}

// of: the number of a text that is right.
func of(t *testing.T, s string) uint64 {
	t.Helper()
	a, e := num.Parse(s)
	if e != api.OK {
		t.Fatalf("Parse(%q): %d", s, e)
	}
	return a
}

// rising: numbers in the order of the chapter, from the infinity below 0 to the one above.
func rising() []uint64 {
	var l []uint64
	above := risingAbove()
	for i := range above {
		l = append(l, above[len(above)-1-i]|sign)
	}
	return append(l, above...)
}

func risingAbove() []uint64 {
	return []uint64{
		zero, tiniest, 2, 3, 5, tinyMax - 1, tinyMax, plain0, plain0 + 1, plain0 + 2, 2 * plain0,
		0x0350000000000001,                                         // beside 2^-970
		0x1e50000000000000, 0x1e50000000000001, 0x1e60000000000000, // 2^-538, beside it, 2^-537
		0x3c90000000000000, 0x3ca0000000000000, 0x3ca0000000000001, // 2^-54, 2^-53, beside it
		0x3fd5555555555555,                                            // 1/3
		0x3fe0000000000000, 0x3fefffffffffffff, one, one + 1, one + 2, // 1/2, beside 1, 1
		0x3ff8000000000000, 0x4000000000000000, 0x4004000000000000, 0x4008000000000000, // 1.5, 2, 2.5, 3
		0x4014000000000000, 0x4024000000000000, // 5, 10
		0x4190000002000000, 0x41a0000002000000, // 2^26 + 1/2, 2^27 + 1
		0x431fffffffffffff, 0x432fffffffffffff, 0x4330000000000000, 0x4330000000000001, // 2^51 - 1/4, 2^52 - 1/2, 2^52, 2^52 + 1
		0x433fffffffffffff, 0x4340000000000000, 0x4340000000000001, // 2^53 - 1, 2^53, 2^53 + 2
		0x43dfffffffffffff, 0x43e0000000000000, 0x43e0000000000001, // beside 2^63, 2^63
		0x5fe0000000000000, 0x5ff0000000000000, // 2^511, 2^512
		0x7c8fffffffffffff, 0x7c90000000000000, 0x7c90000000000001, // beside 2^970, 2^970
		0x7fd0000000000000, 0x7fe0000000000000, most - 1, most, // 2^1022, 2^1023
		inf,
	}
}

func someNaNs() []uint64 {
	return []uint64{nan, nan - 1, inf + 1, sign | nan, sign | (nan - 1), sign | (inf + 1), 1<<64 - 1, sign - 1, 0x7ff4000000000000}
}

func edges() []uint64 { return append(rising(), someNaNs()...) }

// source: numbers without a rule that is to be seen, the same in each run.
type source uint64

func (s *source) next() uint64 {
	*s += 0x9e3779b97f4a7c15
	z := uint64(*s)
	z = (z ^ z>>30) * 0xbf58476d1ce4e5b9
	z = (z ^ z>>27) * 0x94d049bb133111eb
	return z ^ z>>31
}

func (s *source) below(n int) int { return int(s.next() % uint64(n)) }

// finite: of any bits but the infinities' and the NaNs'.
func (s *source) finite() uint64 {
	for {
		if a := s.next(); isFinite(a) {
			return a
		}
	}
}

// short: a number around 1 with few bits, so that products and sums fall halfway between two numbers.
func (s *source) short() uint64 {
	m := s.next() & (1<<52 - 1) &^ (1<<uint(20+s.below(32)) - 1)
	return s.next()&sign | uint64(1023-60+s.below(120))<<52 | m
}

// tiny: a number of the least exponents.
func (s *source) tiny() uint64 { return s.next() & (sign | 1<<55 - 1) }

// pairs: all pairs of edges, and so many of each other kind.
func pairs(many int) [][2]uint64 {
	var l [][2]uint64
	for _, a := range edges() {
		for _, b := range edges() {
			l = append(l, [2]uint64{a, b})
		}
	}
	s := source(1)
	for range many {
		a := s.finite()
		near := a + uint64(s.below(3))<<52 + s.next()&7 // sums that double, or cancel
		l = append(l, [2]uint64{a, s.finite()}, [2]uint64{s.short(), s.short()}, [2]uint64{s.tiny(), s.tiny()}, [2]uint64{s.tiny(), s.short()}, [2]uint64{a, near}, [2]uint64{a, near ^ sign})
	}
	return l
}
