package num_test

import (
	"cmp"
	"testing"

	"gaffer/num"
)

// places: the place of each edge in Order.
func places() map[uint64]int {
	m := map[uint64]int{}
	for i, a := range rising() {
		m[a] = i
	}
	for _, a := range someNaNs() {
		m[a] = len(rising())
	}
	return m
}

func TestP1_5Order(t *testing.T) {
	at := places()
	for a, i := range at {
		for b, j := range at {
			if o := num.Order(a, b); o != cmp.Compare(i, j) {
				t.Errorf("Order(%x, %x) = %d", a, b, o)
			}
		}
	}
}

func TestP1_5OrderOfFinite(t *testing.T) {
	s := source(5)
	for range 5000 {
		a, b := s.finite(), s.finite()
		if s.below(2) == 0 {
			b = a + uint64(s.below(3)) - 1
		}
		if !isFinite(b) || isZero(a) && isZero(b) {
			continue
		}
		if o, w := num.Order(a, b), valueOf(a).Cmp(valueOf(b)); o != w {
			t.Errorf("Order(%x, %x) = %d", a, b, o)
		}
	}
}

func TestP1_5LessAndEqual(t *testing.T) {
	at := places()
	for _, p := range pairs(300) {
		a, b := p[0], p[1]
		less, equal := false, false
		switch {
		case isNaN(a) || isNaN(b):
		case isZero(a) && isZero(b):
			equal = true
		case isFinite(a) && isFinite(b):
			c := valueOf(a).Cmp(valueOf(b))
			less, equal = c < 0, c == 0
		case isInf(a) && isInf(b):
			less, equal = at[a] < at[b], a == b
		default:
			less = isInf(a) && isBelow(a) || isInf(b) && !isBelow(b)
		}
		if num.Less(a, b) != less || num.Equal(a, b) != equal {
			t.Errorf("%x, %x: less %v, equal %v", a, b, num.Less(a, b), num.Equal(a, b))
		}
	}
}

func TestP1_4MinAndMax(t *testing.T) {
	at := places()
	for _, a := range edges() {
		for _, b := range edges() {
			least, greatest := a, b
			if at[a] > at[b] {
				least, greatest = b, a
			}
			if isNaN(a) || isNaN(b) {
				least, greatest = nan, nan
			}
			if num.Min(a, b) != least || num.Max(a, b) != greatest {
				t.Errorf("%x, %x: Min %x, Max %x", a, b, num.Min(a, b), num.Max(a, b))
			}
		}
	}
	checkRows(t, []row{
		{"Min", num.Min, "0", "-0", "-0"},
		{"Min", num.Min, "-0", "0", "-0"},
		{"Max", num.Max, "0", "-0", "0"},
		{"Max", num.Max, "-0", "0", "0"},
		{"Max", num.Max, "-1p0", "nan", "nan"},
		{"Min", num.Min, "nan", "-inf", "nan"},
		{"Max", num.Max, "nan", "inf", "nan"},
	})
}
