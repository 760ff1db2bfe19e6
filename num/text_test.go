package num_test

import (
	"math"
	"math/big"
	"regexp"
	"strconv"
	"strings"
	"testing"

	"gaffer/api"
	"gaffer/num"
)

var form = regexp.MustCompile(`\A(-?)([1-9][0-9]*[13579]|[13579])p(0|-?[1-9][0-9]*)\z`)

var words = map[string]uint64{"nan": nan, "inf": inf, "-inf": inf | sign, "0": zero, "-0": sign}

func TestP1_7Text(t *testing.T) {
	for a, s := range map[uint64]string{
		one: "1p0", 0x4024000000000000: "5p1", 0x3fe8000000000000: "3p-2", 0xc000000000000000: "-1p1", tiniest: "1p-1074", sign | 3: "-3p-1074",
		inf: "inf", inf | sign: "-inf", zero: "0", sign: "-0", tinyMax: "4503599627370495p-1074", plain0: "1p-1022", plain0 + 1: "4503599627370497p-1074",
		most: "9007199254740991p971", one + 1: "4503599627370497p-52", 0x4340000000000000: "1p53", 0x7fe0000000000000: "1p1023",
	} {
		if num.Text(a) != s {
			t.Errorf("Text(%x) = %s, not %s", a, num.Text(a), s)
		}
	}
	for _, a := range someNaNs() {
		if num.Text(a) != "nan" {
			t.Errorf("Text(%x) = %s", a, num.Text(a))
		}
	}
}

func TestP1_7TextForm(t *testing.T) {
	for _, a := range mixed(9) {
		if !isFinite(a) || isZero(a) {
			continue
		}
		s := num.Text(a)
		m := form.FindStringSubmatch(s)
		if m == nil {
			t.Errorf("Text(%x) = %q", a, s)
			continue
		}
		odd, _ := new(big.Rat).SetString(m[1] + m[2])
		e, _ := strconv.Atoi(m[3])
		if odd.Mul(odd, power(e)).Cmp(valueOf(a)) != 0 {
			t.Errorf("Text(%x) = %q", a, s)
		}
	}
}

func checkParse(t *testing.T, s string, a uint64, e api.Errno) {
	t.Helper()
	if b, f := num.Parse(s); b != a || f != e {
		if len(s) > 60 {
			s = s[:60] + ".."
		}
		t.Errorf("Parse(%q) = %x, %d, not %x, %d", s, b, f, a, e)
	}
}

func TestP1_7ParseWords(t *testing.T) {
	for s, a := range words {
		checkParse(t, s, a, api.OK)
	}
}

func TestP1_7ParseWrongTexts(t *testing.T) {
	for _, s := range []string{
		"2p0", "01p0", "1p-0", "+1p0", "1", "1p", "", // the chapter's
		"-", "--1p0", "p", "p1", "-p1", "0p0", "-0p0", "00", "-00", "10p0", "1p00", "1p01", "1p-01", "1p+1", "1p--1", "1p-", "1p0p0", "1p0 ", " 1p0", "1 p0", "1P0", "1e0",
		"-nan", "+nan", "NaN", "nan0", "Inf", "+inf", "--inf", "infinity", "inf ", "+0", "--0", "0.5", "0x1p0", "1.5p0", "1_1p0", "1p1_0", "1p0\n", "\x001p0", "1p0\x00",
		"\u0661p0", "1p\u0661", "\xff1p0", "001p0", "-01p0", "12p3", "9007199254740992p0", "1p1024x", "1p99999999999999999999x", "9007199254740993p0 ",
		strings.Repeat("9", 5000), strings.Repeat("9", 5000) + "8p0", "0" + strings.Repeat("9", 5000) + "p0", "1p0" + strings.Repeat("0", 5000), "1p-0" + strings.Repeat("1", 5000),
	} {
		checkParse(t, s, 0, api.ErrNumText)
	}
}

func TestP1_7ParseNoNumbers(t *testing.T) {
	for _, s := range []string{
		"1p1024", "1p-1075", "9007199254740993p0", "1p99999999999999999999", // the chapter's
		"-1p1024", "-1p-1075", "3p1023", "9007199254740991p972", "9007199254740993p-1074", "9007199254740995p-2000", "18446744073709551615p0", "18446744073709551617p0", "36893488147419103233p-64",
		"1p-99999999999999999999", "1p9223372036854775807", "1p9223372036854775808", "1p-9223372036854775808", "1p-9223372036854775809", "1p18446744073709551616", "1p10000", "1p99999", "1p-1100", "1p-9999", "1p-10000",
		strings.Repeat("9", 5000) + "p0", strings.Repeat("9", 5000) + "p-20000", "1p" + strings.Repeat("9", 5000), "1p-" + strings.Repeat("9", 5000),
	} {
		checkParse(t, s, 0, api.ErrNumRange)
	}
}

func TestP1_7ParseEdges(t *testing.T) {
	for s, a := range map[string]uint64{
		"1p0": one, "-1p0": one | sign, "1p1023": 0x7fe0000000000000, "9007199254740991p971": most, "-9007199254740991p971": most | sign, "1p-1074": tiniest, "-1p-1074": tiniest | sign,
		"4503599627370495p-1074": tinyMax, "1p-1022": plain0, "4503599627370497p-1074": plain0 + 1, "9007199254740991p-1074": 2*plain0 - 1, "9007199254740991p0": 0x433fffffffffffff, "3p1022": 0x7fe8000000000000,
	} {
		checkParse(t, s, a, api.OK)
	}
}

// parseWants: the answer of Parse by the chapter's words.
func parseWants(s string) (uint64, api.Errno) {
	if a, ok := words[s]; ok {
		return a, api.OK
	}
	m := form.FindStringSubmatch(s)
	if m == nil {
		return 0, api.ErrNumText
	}
	e, err := strconv.Atoi(m[3])
	if err != nil || e > 3000 || e < -3000 {
		return 0, api.ErrNumRange
	}
	v, _ := new(big.Rat).SetString(m[1] + m[2])
	f, _ := v.Mul(v, power(e)).Float64()
	if a := math.Float64bits(f); isFinite(a) && valueOf(a).Cmp(v) == 0 {
		return a, api.OK
	}
	return 0, api.ErrNumRange
}

func TestP1_7ParseOfSpoiltTexts(t *testing.T) {
	s := source(10)
	const signs = "0123456789p-+naif "
	for _, a := range mixed(11) {
		b := []byte(num.Text(a))
		for range 1 + s.below(3) {
			i := s.below(len(b) + 1)
			switch c := signs[s.below(len(signs))]; s.below(3) {
			case 0:
				b = append(b[:i:i], append([]byte{c}, b[i:]...)...)
			case 1:
				if i < len(b) {
					b[i] = c
				}
			default:
				if i < len(b) {
					b = append(b[:i], b[i+1:]...)
				}
			}
		}
		w, e := parseWants(string(b))
		checkParse(t, string(b), w, e)
	}
}
