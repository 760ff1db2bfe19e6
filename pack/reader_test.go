package pack_test

import (
	"math"
	"math/rand/v2"
	"strings"
	"testing"

	"gaffer/api"
	"gaffer/pack"
)

func checkFault(t *testing.T, r *pack.Reader, fault api.Errno, place int) {
	t.Helper()
	if e, at := r.Fault(); e != fault || at != place {
		t.Errorf("fault %d at %d, not %d at %d", e, at, fault, place)
	}
}

func checkEnd(t *testing.T, r *pack.Reader, fault api.Errno, place int) {
	t.Helper()
	if e, at := r.End(); e != fault || at != place {
		t.Errorf("end %d at %d, not %d at %d", e, at, fault, place)
	}
}

func TestP2_2Example(t *testing.T) {
	r := pack.Read("\xac\x02\x05")
	if n := r.Num(300); n != 300 || r.At() != 2 {
		t.Errorf("%d, at %d", n, r.At())
	}
	if n := r.Num(4); n != 0 || r.At() != 2 || r.Left() != 1 {
		t.Errorf("%d, at %d, left %d", n, r.At(), r.Left())
	}
	checkFault(t, r, api.ErrPackWide, 2)
	if n := r.Num(9); n != 0 {
		t.Error(n)
	}
	checkEnd(t, r, api.ErrPackWide, 2)
}

// reads: the four of them, with bounds that let much.
func reads() []call {
	return []call{{"Num", most64}, {"List", math.MaxInt}, {"Text", math.MaxInt}, {"Bits", 0}}
}

func TestP2_2FirstFaultStays(t *testing.T) {
	good := pack.Num(3) + "abc12345678"
	faults := []struct {
		bytes string
		first call
	}{
		{good, call{"Num", 2}}, {good, call{"List", 2}}, {good, call{"Text", 2}},
		{"\x80\x00" + good, call{"Num", most64}}, {"\x80\x00" + good, call{"Text", 9}},
		{"\x03ab", call{"Text", 3}}, {"1234567", call{"Bits", 0}}, {"", call{"Bits", 0}}, {"\xff", call{"List", 9}},
	}
	for _, f := range faults {
		for _, ahead := range []string{"", "\x00", "\x05\x00"} {
			var calls []call
			for range len(ahead) {
				calls = append(calls, call{"Num", 5})
			}
			calls = append(calls, f.first)
			for _, later := range reads() {
				calls = append(calls, later, f.first)
			}
			checkCalls(t, ahead+f.bytes, calls...)
		}
	}
}

func TestP2_2TextOfAnyBytes(t *testing.T) {
	var all strings.Builder
	for b := range 256 {
		all.WriteByte(byte(b))
	}
	s := all.String()
	r := pack.Read(pack.Text(s) + pack.Text("") + pack.Text("\xff\xfe"))
	if a, b, c := r.Text(256), r.Text(0), r.Text(2); a != s || b != "" || c != "\xff\xfe" {
		t.Errorf("%q, %q, %q", a, b, c)
	}
	checkEnd(t, r, api.OK, 0)
}

func TestP2_3Examples(t *testing.T) {
	ff := func(n int) string { return strings.Repeat("\xff", n) }
	for b, want := range map[string]api.Errno{"\x80": api.ErrPackShort, "\x80\x00": api.ErrPackForm, ff(10): api.ErrPackForm} {
		r := pack.Read(b)
		if n := r.Num(9); n != 0 {
			t.Errorf("%x: %d", b, n)
		}
		checkFault(t, r, want, 0)
	}
	r := pack.Read(ff(9) + "\x02")
	if n := r.Num(most64); n != 0 {
		t.Error(n)
	}
	checkFault(t, r, api.ErrPackForm, 0)
	long, short, below := pack.Read("\x03ab"), pack.Read("\x03ab"), pack.Read("\x03ab")
	if a, b, c := long.Text(2), short.Text(3), below.List(-1); a != "" || b != "" || c != 0 {
		t.Errorf("%q, %q, %d", a, b, c)
	}
	checkFault(t, long, api.ErrPackLong, 0)
	checkFault(t, short, api.ErrPackShort, 0)
	checkFault(t, below, api.ErrPackLong, 0)
	r = pack.Read("1234567")
	if n := r.Bits(); n != 0 {
		t.Error(n)
	}
	checkFault(t, r, api.ErrPackShort, 0)
}

// bounds: at which a number may be, and around it.
func bounds(n uint64) []uint64 {
	return []uint64{0, n - 1, n, n + 1, math.MaxInt, math.MaxInt + 1, most64}
}

func TestP2_3Bounds(t *testing.T) {
	for _, n := range edges() {
		for _, most := range bounds(n) {
			for _, name := range []string{"Num", "List", "Text"} {
				checkCalls(t, pack.Num(n), call{name, most})
				checkCalls(t, pack.Num(n)+"abcdefgh", call{name, most})
			}
		}
	}
}

func TestP2_3BoundBelowNought(t *testing.T) {
	for _, most := range []int{-1, -2, math.MinInt, 0} {
		for _, name := range []string{"List", "Text"} {
			for _, b := range []string{"\x00", "\x01a", "\x00\x01", "", "\x80", "\x80\x00", pack.Num(most64)} {
				checkCalls(t, b, call{name, uint64(most)}, call{name, 1})
			}
		}
	}
}

func TestP2_3EndsTooEarly(t *testing.T) {
	for _, n := range edges() {
		form := pack.Num(n)
		for cut := range len(form) {
			for _, c := range reads()[:3] {
				checkCalls(t, form[:cut], c)
			}
		}
	}
	for size := range 40 {
		form := pack.Text(strings.Repeat("t", size))
		for cut := range len(form) + 1 {
			checkCalls(t, form[:cut], call{"Text", 40})
		}
	}
	for size := range 20 {
		checkCalls(t, strings.Repeat("\x81", size), call{"Bits", 0}, call{"Bits", 0}, call{"Bits", 0})
	}
}

// TestP2_3AllForms: up to twelve bytes: so many high ones, one that is below 128 or not, some behind.
func TestP2_3AllForms(t *testing.T) {
	for highs := range 12 {
		for _, high := range []string{"\x80", "\x81", "\xff"} {
			for last := range 256 {
				for _, behind := range []string{"", "\x00", "\x01\x02", "\xff\xff"} {
					b := strings.Repeat(high, highs) + string([]byte{byte(last)}) + behind
					for _, c := range reads() {
						checkCalls(t, b, c, c)
					}
				}
			}
		}
	}
}

// TestP2_3AllPairs: of bytes.
func TestP2_3AllPairs(t *testing.T) {
	for pair := range 1 << 16 {
		b := string([]byte{byte(pair >> 8), byte(pair)})
		for _, c := range []call{{"Num", most64}, {"Num", 200}, {"List", 200}, {"Text", 200}} {
			checkCalls(t, b, c, c)
		}
	}
}

// TestP2_3WhichFirst: a form that may not be is told ahead of a bound, a bound ahead of bytes that are missing.
func TestP2_3WhichFirst(t *testing.T) {
	for _, c := range []struct {
		bytes string
		call  call
		want  api.Errno
	}{
		{"\xff\x00", call{"Num", 0}, api.ErrPackForm},
		{"\xff\x00", call{"List", 0}, api.ErrPackForm},
		{"\xff\x00", call{"Text", 0}, api.ErrPackForm},
		{"\xff", call{"Num", 0}, api.ErrPackShort},
		{"\xff", call{"Text", 0}, api.ErrPackShort},
		{"\x7f", call{"Text", 126}, api.ErrPackLong},
		{"\x7f", call{"Text", 127}, api.ErrPackShort},
		{pack.Num(math.MaxInt + 1), call{"Text", math.MaxInt}, api.ErrPackLong},
		{pack.Num(math.MaxInt), call{"Text", math.MaxInt}, api.ErrPackShort},
		{pack.Num(most64), call{"List", math.MaxInt}, api.ErrPackLong},
	} {
		r := pack.Read(c.bytes)
		if n, s := c.call.do(r); n != 0 || s != "" {
			t.Errorf("%x: %v: %d, %q", c.bytes, c.call, n, s)
		}
		checkFault(t, r, c.want, 0)
	}
}

func TestP2_4Examples(t *testing.T) {
	r := pack.Read("\x05")
	checkEnd(t, r, api.ErrPackMore, 0)
	checkFault(t, r, api.OK, 0)
	if n := r.Num(5); n != 5 || r.At() != 1 || r.Left() != 0 {
		t.Errorf("%d, at %d, left %d", n, r.At(), r.Left())
	}
	checkEnd(t, r, api.OK, 0)
	checkFault(t, r, api.OK, 0)
	r = pack.Read("")
	if r.At() != 0 || r.Left() != 0 {
		t.Errorf("at %d, left %d", r.At(), r.Left())
	}
	checkEnd(t, r, api.OK, 0)
}

func TestP2_4LeftOver(t *testing.T) {
	r := pack.Read(pack.Text("abc") + "xy")
	r.Text(3)
	checkEnd(t, r, api.ErrPackMore, 4)
	checkFault(t, r, api.OK, 0)
	if n := r.Num(200); n != 'x' {
		t.Errorf("%d: ErrPackMore is no fault", n)
	}
	checkEnd(t, r, api.ErrPackMore, 5)
}

// someBytes: things laid one behind the other, most of them readable, a few of them spoilt.
func someBytes(s *rand.Rand) string {
	var b []byte
	for range s.IntN(8) {
		switch s.IntN(4) {
		case 0:
			b = append(b, pack.Num(s.Uint64()>>s.IntN(64))...)
		case 1:
			b = append(b, pack.Text(strings.Repeat("\x81", s.IntN(12)))...)
		case 2:
			b = append(b, pack.Bits(s.Uint64())...)
		default:
			b = append(b, byte(s.IntN(256)))
		}
	}
	return string(b[:len(b)-min(len(b), s.IntN(3))])
}

func someCall(s *rand.Rand) call {
	switch s.IntN(4) {
	case 0:
		return call{"Num", s.Uint64() >> s.IntN(64)}
	case 1:
		return call{"List", uint64(s.IntN(300) - 2)}
	case 2:
		return call{"Text", uint64(s.IntN(300) - 2)}
	}
	return call{"Bits", 0}
}

func TestP2_4Walks(t *testing.T) {
	s := rand.New(rand.NewPCG(2, 4))
	for range 20000 {
		var calls []call
		for range 1 + s.IntN(8) {
			calls = append(calls, someCall(s))
		}
		checkCalls(t, someBytes(s), calls...)
	}
}

func TestP2_4Clones(t *testing.T) {
	s := rand.New(rand.NewPCG(4, 2))
	for range 5000 {
		b := someBytes(s)
		models, readers := []*model{{bytes: b}}, []*pack.Reader{pack.Read(b)}
		for range 12 {
			i := s.IntN(len(models))
			if s.IntN(3) == 0 {
				twin := *models[i]
				models, readers = append(models, &twin), append(readers, readers[i].Clone())
			} else {
				models[i].step(t, readers[i], someCall(s))
			}
			for j, m := range models {
				m.check(t, readers[j])
			}
		}
	}
}

func TestP2_4CloneOfAFault(t *testing.T) {
	r := pack.Read("\x01\x09a")
	r.Num(1)
	r.Num(1)
	c := r.Clone()
	checkFault(t, c, api.ErrPackWide, 1)
	if n := c.Num(9); n != 0 || c.At() != 1 || c.Left() != 2 {
		t.Errorf("%d, at %d, left %d", n, c.At(), c.Left())
	}
	checkFault(t, c, api.ErrPackWide, 1)
}
