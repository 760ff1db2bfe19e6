package num_test

import (
	"testing"

	"gaffer/num"
)

func TestP1_8ParseOfText(t *testing.T) {
	s := source(12)
	l := mixed(13)
	for range 5000 {
		l = append(l, s.next())
	}
	for _, a := range l {
		if b := of(t, num.Text(a)); b != num.Canon(a) {
			t.Errorf("%x: %s: %x", a, num.Text(a), b)
		}
	}
}

func TestP1_8BothWaysRound(t *testing.T) {
	for _, p := range pairs(1000) {
		a, b := p[0], p[1]
		if num.Add(a, b) != num.Add(b, a) || num.Mul(a, b) != num.Mul(b, a) {
			t.Errorf("%x, %x", a, b)
		}
	}
}

func TestP1_8LessAndMoreAgain(t *testing.T) {
	s := source(14)
	many := 0
	for range 20000 {
		a := num.Abs(s.finite())
		if s.below(4) == 0 {
			a = num.Abs(s.tiny())
		}
		b := num.Abs(a + s.next()&(1<<53-1) - 1<<52)
		if !isFinite(b) || isZero(a) || isZero(b) || twiceBelow(a, b) || twiceBelow(b, a) {
			continue
		}
		many++
		if c := num.Add(num.Sub(a, b), b); c != a {
			t.Errorf("%x, %x: %x", a, b, c)
		}
	}
	if many < 5000 {
		t.Error("too few: ", many)
	}
}

// twiceBelow: is b above twice a?
func twiceBelow(a, b uint64) bool {
	v := valueOf(a)
	return valueOf(b).Cmp(v.Add(v, v)) > 0
}

func checkRises(t *testing.T, a, b, c uint64) {
	t.Helper()
	if num.Order(a, b) > 0 {
		a, b = b, a
	}
	if isNaN(a) || isNaN(b) {
		return
	}
	if x, y := num.Add(a, c), num.Add(b, c); !isNaN(x) && !isNaN(y) && num.Order(x, y) > 0 {
		t.Fatalf("Add of %x, %x and %x", a, b, c)
	}
	x, y := num.Mul(a, c), num.Mul(b, c)
	if isBelow(c) || isNaN(x) || isNaN(y) || isZero(x) && isZero(y) {
		return
	}
	if num.Order(x, y) > 0 {
		t.Fatalf("Mul of %x, %x and %x", a, b, c)
	}
}

func TestP1_8Rises(t *testing.T) {
	for _, a := range edges() {
		for _, b := range edges() {
			for _, c := range edges() {
				checkRises(t, a, b, c)
			}
		}
	}
	s := source(15)
	for _, p := range pairs(5000) {
		checkRises(t, p[0], p[1], s.short())
		checkRises(t, p[0], p[0]+1, p[1])
	}
}

func TestP1_9OtherSigns(t *testing.T) {
	for _, p := range pairs(2000) {
		a, b := p[0], p[1]
		if num.Neg(num.Neg(a)) != num.Canon(a) {
			t.Errorf("Neg twice of %x", a)
		}
		if num.Mul(num.Neg(a), b) != num.Neg(num.Mul(a, b)) || num.Mul(a, num.Neg(b)) != num.Neg(num.Mul(a, b)) {
			t.Errorf("Mul of %x, %x", a, b)
		}
		if num.Div(num.Neg(a), b) != num.Neg(num.Div(a, b)) || num.Div(a, num.Neg(b)) != num.Neg(num.Div(a, b)) {
			t.Errorf("Div of %x, %x", a, b)
		}
		if c := num.Add(a, b); !isZero(c) && num.Add(num.Neg(a), num.Neg(b)) != num.Neg(c) {
			t.Errorf("Add of %x, %x", a, b)
		}
	}
}

func isPlain(a uint64) bool { return isFinite(a) && a&^sign >= plain0 }

func TestP1_9PowersOfTwo(t *testing.T) {
	s := source(16)
	for k := -1000; k <= 1000; k++ {
		up, down := uint64(1023+k)<<52, uint64(1023-k)<<52
		l := append(edges(), s.finite(), s.finite(), s.short(), s.tiny())
		for _, a := range l {
			c := num.Mul(a, up)
			if d := num.Div(a, down); c != d {
				t.Fatalf("%x, 2^%d: Mul %x, Div %x", a, k, c, d)
			}
			if isPlain(a) && isPlain(c) && c&^sign > plain0 && (num.Mul(c, down) != a || num.Div(c, up) != a) {
				t.Fatalf("%x, 2^%d: %x, and back %x", a, k, c, num.Mul(c, down))
			}
		}
	}
}

func TestP1_9WholeNumbers(t *testing.T) {
	s := source(17)
	l := []int64{0, 1, -1, 2, -2, 1 << 25, -1 << 25, 1<<25 - 1, -1<<25 + 1}
	for range 300 {
		l = append(l, int64(s.below(1<<26+1))-1<<25)
	}
	for _, n := range l {
		for _, m := range l {
			sum, e := num.Int(num.Add(num.Of(n), num.Of(m)))
			product, f := num.Int(num.Mul(num.Of(n), num.Of(m)))
			if e != 0 || f != 0 || sum != n+m || product != n*m {
				t.Fatalf("%d, %d: %d, %d", n, m, sum, product)
			}
		}
	}
}

func TestP1_9MinAndMaxAreBoth(t *testing.T) {
	for _, p := range pairs(1000) {
		a, b := p[0], p[1]
		if isNaN(a) || isNaN(b) {
			continue
		}
		x, y := num.Min(a, b), num.Max(a, b)
		if !(x == a && y == b || x == b && y == a) {
			t.Errorf("%x, %x: %x, %x", a, b, x, y)
		}
	}
}

// lastBit: the value of the lowest bit of a finite number.
func lastBit(a uint64) int {
	return max(int(a>>52&2047), 1) - 1075
}

func TestP1_9WhatASumLeavesOut(t *testing.T) {
	for _, p := range pairs(3000) {
		a, b := p[0], p[1]
		if num.Order(num.Abs(a), num.Abs(b)) < 0 {
			a, b = b, a
		}
		s := num.Add(a, b)
		if !isPlain(a) || !isPlain(b) || !isFinite(s) {
			continue
		}
		left := num.Abs(num.Sub(b, num.Sub(s, a)))
		if !isFinite(left) || valueOf(left).Cmp(power(lastBit(s)-1)) > 0 {
			t.Errorf("%x, %x: %x leaves out %x", a, b, s, left)
		}
	}
}
