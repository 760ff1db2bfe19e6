package pack_test

import (
	"math/big"
	"strconv"
	"testing"

	"gaffer/api"
	"gaffer/pack"
)

// What the tests hold the package against: the chapter's words, in binary digits and in whole numbers of any length.

const most64 = 1<<64 - 1

// formOf: the form of a number, by its binary digits.
func formOf(n uint64) string {
	digits := strconv.FormatUint(n, 2)
	var form []byte
	for len(digits) > 7 {
		cut := len(digits) - 7
		form = append(form, 128+group(digits[cut:]))
		digits = digits[:cut]
	}
	return string(append(form, group(digits)))
}

func group(digits string) byte {
	n, _ := strconv.ParseUint(digits, 2, 7)
	return byte(n)
}

// bitsForm: the form of bits, by its digits in base sixteen.
func bitsForm(n uint64) string {
	digits := strconv.FormatUint(n, 16)
	for len(digits) < 16 {
		digits = "0" + digits
	}
	var form []byte
	for i := 0; i < 16; i += 2 {
		b, _ := strconv.ParseUint(digits[i:i+2], 16, 8)
		form = append(form, byte(b))
	}
	return string(form)
}

// answer: of a read: the number or the text, the bytes that it takes, the fault.
type answer struct {
	num   uint64
	text  string
	size  int
	fault api.Errno
}

func none(e api.Errno) answer { return answer{fault: e} }

// endOf: the place of the first byte below 128 among the first ten; -1, if there is none.
func endOf(b string) int {
	for i := range min(10, len(b)) {
		if b[i] < 128 {
			return i
		}
	}
	return -1
}

// number: what P2.3 says of a number at the beginning of b.
func number(b string, most uint64, above api.Errno) answer {
	end := endOf(b)
	if end < 0 && len(b) < 10 {
		return none(api.ErrPackShort)
	}
	if end < 0 || end > 0 && b[end] == 0 || end == 9 && b[9] > 1 {
		return none(api.ErrPackForm)
	}
	n := new(big.Int)
	for i := end; i >= 0; i-- {
		n.Mul(n, big.NewInt(128))
		n.Add(n, big.NewInt(int64(b[i]%128)))
	}
	if n.Cmp(new(big.Int).SetUint64(most)) > 0 {
		return none(above)
	}
	return answer{num: n.Uint64(), size: end + 1}
}

// list: likewise of a list's count.
func list(b string, most int) answer {
	if most < 0 {
		most = 0
	}
	return number(b, uint64(most), api.ErrPackLong)
}

// text: likewise of a text.
func text(b string, most int) answer {
	a := list(b, most)
	if a.fault != api.OK {
		return a
	}
	if uint64(len(b)-a.size) < a.num {
		return none(api.ErrPackShort)
	}
	size := a.size + int(a.num)
	return answer{text: b[a.size:size], size: size}
}

// bits: likewise of bits.
func bits(b string) answer {
	if len(b) < 8 {
		return none(api.ErrPackShort)
	}
	n := new(big.Int).SetBytes([]byte(b[:8]))
	return answer{num: n.Uint64(), size: 8}
}

// call: one of the reads, and its bound.
type call struct {
	name string
	most uint64 // of List and Text: an int's bits
}

func (c call) String() string { return c.name + "(" + strconv.FormatUint(c.most, 10) + ")" }

// says: what the chapter says of a call at the beginning of b.
func (c call) says(b string) answer {
	switch c.name {
	case "Num":
		return number(b, c.most, api.ErrPackWide)
	case "List":
		return list(b, int(c.most))
	case "Text":
		return text(b, int(c.most))
	}
	return bits(b)
}

// do: what the reader answers.
func (c call) do(r *pack.Reader) (uint64, string) {
	switch c.name {
	case "Num":
		return r.Num(c.most), ""
	case "List":
		return uint64(r.List(int(c.most))), ""
	case "Text":
		return 0, r.Text(int(c.most))
	}
	return r.Bits(), ""
}

// model: a reader by the chapter's words.
type model struct {
	bytes string
	at    int
	fault api.Errno
}

func (m *model) do(c call) (uint64, string) {
	if m.fault != api.OK {
		return 0, ""
	}
	a := c.says(m.bytes[m.at:])
	m.at += a.size
	m.fault = a.fault
	return a.num, a.text
}

// check: does the reader stand as the model does?
func (m *model) check(t *testing.T, r *pack.Reader) {
	t.Helper()
	if r.At() != m.at || r.Left() != len(m.bytes)-m.at {
		t.Fatalf("%x: stands at %d, %d left, not at %d", m.bytes, r.At(), r.Left(), m.at)
	}
	fault, place := m.fault, 0
	if fault != api.OK {
		place = m.at
	}
	if e, at := r.Fault(); e != fault || at != place {
		t.Fatalf("%x: fault %d at %d, not %d at %d", m.bytes, e, at, fault, place)
	}
	if fault == api.OK && m.at < len(m.bytes) {
		fault, place = api.ErrPackMore, m.at
	}
	if e, at := r.End(); e != fault || at != place {
		t.Fatalf("%x: end %d at %d, not %d at %d", m.bytes, e, at, fault, place)
	}
}

// step: does the reader do what the model does?
func (m *model) step(t *testing.T, r *pack.Reader, c call) {
	t.Helper()
	begin := m.at
	n, s := c.do(r)
	if wantNum, wantText := m.do(c); n != wantNum || s != wantText {
		t.Fatalf("%x: %v at %d: %d, %q, not %d, %q", m.bytes, c, begin, n, s, wantNum, wantText)
	}
	m.check(t, r)
}

// checkCalls: a fresh reader of b, and these calls.
func checkCalls(t *testing.T, b string, calls ...call) {
	t.Helper()
	m, r := &model{bytes: b}, pack.Read(b)
	m.check(t, r)
	for _, c := range calls {
		m.step(t, r, c)
	}
}

// edges: numbers at the ends of their groups and of the kinds of integers.
func edges() []uint64 {
	l := []uint64{0, 1, 2, 5, 9, 100, 300, 1000, most64 - 1, most64}
	for k := range 64 {
		n := uint64(1) << k
		l = append(l, n-1, n, n+1)
	}
	return l
}
