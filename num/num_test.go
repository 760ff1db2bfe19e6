package num_test

import (
	"math/big"
	"testing"

	"gaffer/api"
	"gaffer/num"
)

func TestP1_1CanonAndClass(t *testing.T) {
	for _, a := range someNaNs() {
		if num.Canon(a) != nan || num.Class(a) != api.ClassNaN {
			t.Errorf("%x: %x, class %d", a, num.Canon(a), num.Class(a))
		}
	}
	classes := map[uint64]int{
		inf: api.ClassInf, zero: api.ClassZero, tiniest: api.ClassTiny, tinyMax: api.ClassTiny, 1 << 51: api.ClassTiny,
		plain0: api.ClassPlain, plain0 + 1: api.ClassPlain, one: api.ClassPlain, most: api.ClassPlain, 0x7fe0000000000000: api.ClassPlain,
	}
	for a, class := range classes {
		for _, b := range []uint64{a, a | sign} {
			if num.Canon(b) != b || num.Class(b) != class {
				t.Errorf("%x: %x, class %d, not %d", b, num.Canon(b), num.Class(b), class)
			}
		}
	}
}

// answers: what a call of two numbers must answer; ok false: the exact value, rounded.
type answers func(a, b uint64) (c uint64, ok bool)

func checkRounded(t *testing.T, name string, call func(a, b uint64) uint64, want answers, exact func(v, w *big.Rat) *big.Rat) {
	t.Helper()
	for _, p := range pairs(1500) {
		a, b := p[0], p[1]
		c := call(a, b)
		if w, ok := want(a, b); ok {
			if c != w {
				t.Fatalf("%s(%x, %x) = %x, not %x", name, a, b, c, w)
			}
			continue
		}
		if v := exact(valueOf(a), valueOf(b)); !isRounded(c, v) {
			t.Fatalf("%s(%x, %x) = %x", name, a, b, c)
		}
	}
}

func addWants(a, b uint64) (uint64, bool) {
	switch {
	case isNaN(a) || isNaN(b), isInf(a) && isInf(b) && a != b:
		return nan, true
	case isInf(a):
		return a, true
	case isInf(b):
		return b, true
	case isZero(a) && isZero(b) && isBelow(a) && isBelow(b):
		return sign, true
	case valueOf(a).Cmp(new(big.Rat).Neg(valueOf(b))) == 0:
		return zero, true
	}
	return 0, false
}

func TestP1_2Add(t *testing.T) {
	checkRounded(t, "Add", num.Add, addWants, func(v, w *big.Rat) *big.Rat { return v.Add(v, w) })
}

func TestP1_2Sub(t *testing.T) {
	wants := func(a, b uint64) (uint64, bool) { return addWants(a, b^sign) }
	checkRounded(t, "Sub", num.Sub, wants, func(v, w *big.Rat) *big.Rat { return v.Sub(v, w) })
	for _, p := range pairs(100) {
		if num.Sub(p[0], p[1]) != num.Add(p[0], num.Neg(p[1])) {
			t.Errorf("%x, %x", p[0], p[1])
		}
	}
}

func mulWants(a, b uint64) (uint64, bool) {
	s := (a ^ b) & sign
	switch {
	case isNaN(a) || isNaN(b), isInf(a) && isZero(b), isZero(a) && isInf(b):
		return nan, true
	case isInf(a) || isInf(b):
		return s | inf, true
	case isZero(a) || isZero(b):
		return s, true
	}
	return 0, false
}

func TestP1_3Mul(t *testing.T) {
	checkRounded(t, "Mul", num.Mul, mulWants, func(v, w *big.Rat) *big.Rat { return v.Mul(v, w) })
}

func divWants(a, b uint64) (uint64, bool) {
	s := (a ^ b) & sign
	switch {
	case isNaN(a) || isNaN(b), isInf(a) && isInf(b), isZero(a) && isZero(b):
		return nan, true
	case isInf(a) || isZero(b):
		return s | inf, true
	case isInf(b) || isZero(a):
		return s, true
	}
	return 0, false
}

func TestP1_3Div(t *testing.T) {
	checkRounded(t, "Div", num.Div, divWants, func(v, w *big.Rat) *big.Rat { return v.Quo(v, w) })
}

func TestP1_4NegAndAbs(t *testing.T) {
	s := source(4)
	l := edges()
	for range 1000 {
		l = append(l, s.next())
	}
	for _, a := range l {
		neg, abs := a^sign, a&^uint64(sign)
		if isNaN(a) {
			neg, abs = nan, nan
		}
		if num.Neg(a) != neg || num.Abs(a) != abs {
			t.Errorf("%x: Neg %x, Abs %x", a, num.Neg(a), num.Abs(a))
		}
	}
}

// row: a call of two numbers by their texts, and its answer's.
type row struct {
	name    string
	call    func(a, b uint64) uint64
	a, b, c string
}

func checkRows(t *testing.T, l []row) {
	t.Helper()
	for _, x := range l {
		if c := num.Text(x.call(of(t, x.a), of(t, x.b))); c != x.c {
			t.Errorf("%s(%s, %s) = %s, not %s", x.name, x.a, x.b, c, x.c)
		}
	}
}

func TestP1_2AndP1_3Examples(t *testing.T) {
	checkRows(t, []row{
		{"Add", num.Add, "1p53", "1p0", "1p53"},
		{"Add", num.Add, "1p53", "3p0", "2251799813685249p2"},
		{"Add", num.Add, "1p1023", "1p1023", "inf"},
		{"Add", num.Add, "inf", "-inf", "nan"},
		{"Add", num.Add, "-0", "-0", "-0"},
		{"Add", num.Add, "0", "-0", "0"},
		{"Sub", num.Sub, "1p0", "1p0", "0"},
		{"Mul", num.Mul, "1p-1074", "1p-1", "0"},
		{"Mul", num.Mul, "3p-1074", "1p-1", "1p-1073"},
		{"Mul", num.Mul, "-1p-600", "1p-600", "-0"},
		{"Mul", num.Mul, "0", "inf", "nan"},
		{"Div", num.Div, "1p0", "3p0", "6004799503160661p-54"},
		{"Div", num.Div, "-1p0", "0", "-inf"},
		{"Div", num.Div, "0", "-0", "nan"},
	})
}

func TestP1_2AndP1_3Halfway(t *testing.T) {
	checkRows(t, []row{
		{"Add", num.Add, "-1p53", "-1p0", "-1p53"},
		{"Add", num.Add, "1p53", "4503599627370497p-52", "4503599627370497p1"},                   // just above half of the last bit
		{"Add", num.Add, "9007199254740991p971", "1p970", "inf"},                                 // just 2^1024 - 2^970
		{"Add", num.Add, "9007199254740991p971", "9007199254740991p917", "9007199254740991p971"}, // just below it
		{"Sub", num.Sub, "-9007199254740991p971", "1p970", "-inf"},
		{"Mul", num.Mul, "134217729p0", "67108865p0", "134217731p26"},       // 2^53 + 2^27 + 2^26 + 1: the lower one is even
		{"Mul", num.Mul, "134217729p0", "67108867p0", "2251799931125761p2"}, // 2^53 + 3 * 2^27 + 2^26 + 3: the upper one is
		{"Mul", num.Mul, "1p512", "1p512", "inf"},
		{"Mul", num.Mul, "5p-1074", "1p-1", "1p-1073"},
		{"Mul", num.Mul, "1p-1074", "3p-2", "1p-1074"},
		{"Mul", num.Mul, "1p-537", "-1p-538", "-0"},
		{"Div", num.Div, "1p-1074", "1p1", "0"},
		{"Div", num.Div, "-1p-1074", "1p1", "-0"},
		{"Div", num.Div, "3p-1074", "1p1", "1p-1073"},
		{"Div", num.Div, "5p-1074", "1p1", "1p-1073"},
		{"Div", num.Div, "1p1023", "1p-1", "inf"},
		{"Div", num.Div, "1p-1074", "inf", "0"},
	})
}
