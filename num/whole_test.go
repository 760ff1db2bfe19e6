package num_test

import (
	"math"
	"math/big"
	"testing"

	"gaffer/api"
	"gaffer/num"
)

// floorWants: the answer of Floor by the chapter's words.
func floorWants(a uint64) uint64 {
	if isNaN(a) {
		return nan
	}
	if isInf(a) || isZero(a) {
		return a
	}
	v := valueOf(a)
	whole := new(big.Int).Div(v.Num(), v.Denom()) // down, also below 0
	if whole.Sign() == 0 {
		return zero
	}
	f, _ := new(big.Float).SetInt(whole).Float64()
	return math.Float64bits(f)
}

// mixed: edges, and numbers about the size of whole ones.
func mixed(seed source) []uint64 {
	l := edges()
	for range 3000 {
		l = append(l, seed.finite(), seed.short(), seed.tiny())
	}
	return l
}

func TestP1_4Floor(t *testing.T) {
	for _, a := range mixed(6) {
		if c := num.Floor(a); c != floorWants(a) {
			t.Errorf("Floor(%x) = %x, not %x", a, c, floorWants(a))
		}
	}
	for a, b := range map[string]string{
		"1p-1": "0", "-1p-1": "-1p0", "-0": "-0", "0": "0", "inf": "inf", "-inf": "-inf", "nan": "nan", "-5p-1": "-3p0", "5p-1": "1p1",
		"1p-1074": "0", "-1p-1074": "-1p0", "9007199254740991p-1": "4503599627370495p0", "-9007199254740991p-1": "-1p52", "9007199254740991p971": "9007199254740991p971",
	} {
		if c := num.Text(num.Floor(of(t, a))); c != b {
			t.Errorf("Floor(%s) = %s, not %s", a, c, b)
		}
	}
}

func TestP1_6Int(t *testing.T) {
	for _, a := range mixed(7) {
		n, e := num.Int(a)
		if isFinite(a) && valueOf(a).IsInt() && valueOf(a).Num().IsInt64() {
			if e != api.OK || n != valueOf(a).Num().Int64() {
				t.Errorf("Int(%x) = %d, %d", a, n, e)
			}
		} else if e != api.ErrNumRange || n != 0 {
			t.Errorf("Int(%x) = %d, %d", a, n, e)
		}
	}
}

func TestP1_6IntEdges(t *testing.T) {
	for s, w := range map[string]int64{
		"5p1": 10, "0": 0, "-0": 0, "-1p0": -1, "-1p63": -1 << 63, "1p62": 1 << 62,
		"9007199254740991p10": 1<<63 - 1024, "-9007199254740991p10": -1<<63 + 1024, "9007199254740991p0": 1<<53 - 1,
	} {
		if n, e := num.Int(of(t, s)); n != w || e != api.OK {
			t.Errorf("Int(%s) = %d, %d", s, n, e)
		}
	}
	for _, s := range []string{"nan", "inf", "-inf", "1p-1", "-1p-1", "1p-1074", "9007199254740991p-1", "1p63", "-4503599627370497p11", "-1p64", "1p1023"} {
		if n, e := num.Int(of(t, s)); n != 0 || e != api.ErrNumRange {
			t.Errorf("Int(%s) = %d, %d", s, n, e)
		}
	}
	for _, a := range someNaNs() {
		if n, e := num.Int(a); n != 0 || e != api.ErrNumRange {
			t.Errorf("Int(%x) = %d, %d", a, n, e)
		}
	}
}

func TestP1_6Of(t *testing.T) {
	s := source(8)
	l := []int64{1, -1, 1 << 53, 1<<53 + 1, 1<<53 + 2, 1<<53 + 3, -1<<53 - 1, -1<<53 - 3, 1<<63 - 1, 1<<63 - 512, 1<<63 - 513, -1 << 63, -1<<63 + 1}
	for range 2000 {
		l = append(l, int64(s.next()), int64(s.next())>>s.below(64)|1)
	}
	for _, n := range l {
		if a := num.Of(n); !isRounded(a, new(big.Rat).SetInt64(n)) {
			t.Errorf("Of(%d) = %x", n, a)
		}
	}
	if num.Of(0) != zero {
		t.Errorf("Of(0) = %x", num.Of(0))
	}
	for n, w := range map[int64]string{1<<53 + 1: "1p53", 1<<53 + 3: "2251799813685249p2", 1<<63 - 1: "1p63", -1 << 63: "-1p63", 10: "5p1"} {
		if got := num.Text(num.Of(n)); got != w {
			t.Errorf("Of(%d) = %s", n, got)
		}
	}
}
