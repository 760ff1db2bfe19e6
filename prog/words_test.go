package prog_test

import (
	"encoding/binary"
	"fmt"
	"math/rand/v2"
	"reflect"
	"regexp"
	"slices"
	"strconv"
	"strings"
	"sync"
	"testing"

	"gaffer/api"
	"gaffer/num"
	"gaffer/prog"
)

// The chapter's words, told a second time: its table as a text, a program's lines by patterns, its bytes by another library.

const table = `
1 set A K|2 move A B|3 add A B C|4 sub A B C|5 mul A B C|6 div A B C|7 min A B C|8 max A B C
9 less A B C|10 order A B C|11 neg A B|12 abs A B|13 floor A B|14 jump N|15 if A N|16 goto A
17 call N|18 ret|19 push A|20 pop A|21 emit A|22 write A|23 fail A|24 halt`

const oneNaN = 0x7ff8000000000001

// op: of the chapter's table.
type op struct {
	number int
	word   string
	names  []string
}

var allOps = sync.OnceValue(func() []op {
	var l []op
	for _, row := range strings.FieldsFunc(table, func(r rune) bool { return r == '|' || r == '\n' }) {
		parts := strings.Fields(row)
		n, _ := strconv.Atoi(parts[0])
		l = append(l, op{n, parts[1], parts[2:]})
	}
	return l
})

// names: which fields an op has; nothing, if there is no such op.
func names(number int) (op, bool) {
	for _, o := range allOps() {
		if o.number == number {
			return o, true
		}
	}
	return op{}, false
}

func (o op) has(name string) bool { return slices.Contains(o.names, name) }

func isNaN(bits uint64) bool { return bits<<1 > 0xffe0000000000000 }

// modelCheck: P5.1.
func modelCheck(p api.Program) (api.Errno, int) {
	if !(1 <= p.Fuel && p.Fuel <= 1024) {
		return api.ErrProgFuel, 0
	}
	if !(1 <= len(p.Code) && len(p.Code) <= 64) {
		return api.ErrProgMany, 0
	}
	for i, x := range p.Code {
		if e := modelIns(x, len(p.Code)); e != api.OK {
			return e, i
		}
	}
	return api.OK, 0
}

func modelIns(x api.Ins, many int) api.Errno {
	o, ok := names(x.Op)
	if !ok {
		return api.ErrProgOp
	}
	for name, v := range registers(x) {
		if !o.has(name) && v != 0 {
			return api.ErrProgForm
		}
		if o.has(name) && (v < 0 || v > 7) {
			return api.ErrProgReg
		}
	}
	switch {
	case !o.has("N") && x.N != 0:
		return api.ErrProgForm
	case o.has("N") && (x.N < 0 || x.N > many):
		return api.ErrProgJump
	case !o.has("K") && x.K != 0, o.has("K") && isNaN(x.K) && x.K != oneNaN:
		return api.ErrProgForm
	}
	return api.OK
}

// registers: the registers, in their order.
func registers(x api.Ins) func(func(string, int) bool) {
	return func(yield func(string, int) bool) {
		_ = yield("A", x.A) && yield("B", x.B) && yield("C", x.C)
	}
}

// modelText: the text of a program that may be.
func modelText(p api.Program) string {
	s := fmt.Sprintf("fuel %d\n", p.Fuel)
	for _, x := range p.Code {
		o, _ := names(x.Op)
		told := map[string]string{
			"A": fmt.Sprintf(" r%d", x.A), "B": fmt.Sprintf(" r%d", x.B), "C": fmt.Sprintf(" r%d", x.C),
			"N": fmt.Sprintf(" %d", x.N), "K": " " + num.Text(x.K),
		}
		s += o.word
		for _, name := range o.names {
			s += told[name]
		}
		s += "\n"
	}
	return s
}

// modelBytes: its bytes.
func modelBytes(p api.Program) string {
	b := binary.AppendUvarint(nil, uint64(p.Fuel))
	b = binary.AppendUvarint(b, uint64(len(p.Code)))
	for _, x := range p.Code {
		b = binary.AppendUvarint(b, uint64(x.Op))
		o, _ := names(x.Op)
		told := map[string]int{"A": x.A, "B": x.B, "C": x.C, "N": x.N}
		for _, name := range o.names {
			if name == "K" {
				b = binary.BigEndian.AppendUint64(b, x.K)
			} else {
				b = binary.AppendUvarint(b, uint64(told[name]))
			}
		}
	}
	return string(b)
}

// linePatterns: the form of line 1, and those of the others.
func linePatterns() (*regexp.Regexp, []*regexp.Regexp) {
	const number = `(0|[1-9][0-9]{0,8})`
	forms := map[string]string{"A": ` r([0-7])`, "B": ` r([0-7])`, "C": ` r([0-7])`, "N": " " + number, "K": ` ([^ ]+)`}
	var l []*regexp.Regexp
	for _, o := range allOps() {
		form := `\A` + o.word
		for _, name := range o.names {
			form += forms[name]
		}
		l = append(l, regexp.MustCompile(form+`\z`))
	}
	return regexp.MustCompile(`\Afuel ` + number + `\z`), l
}

// reader: by patterns that are made once.
type reader struct {
	first *regexp.Regexp
	forms []*regexp.Regexp
}

func newReader() reader {
	first, forms := linePatterns()
	return reader{first, forms}
}

// ins: the instruction that a line tells.
func (r reader) ins(line string) (api.Ins, bool) {
	for i, form := range r.forms {
		m := form.FindStringSubmatch(line)
		if m == nil {
			continue
		}
		o := allOps()[i]
		x := api.Ins{Op: o.number}
		into := map[string]*int{"A": &x.A, "B": &x.B, "C": &x.C, "N": &x.N}
		for j, name := range o.names {
			if name == "K" {
				k, e := num.Parse(m[j+1])
				if e != api.OK {
					return api.Ins{}, false
				}
				x.K = k
			} else {
				*into[name], _ = strconv.Atoi(m[j+1])
			}
		}
		return x, true
	}
	return api.Ins{}, false
}

// parse: P5.2.
func (r reader) parse(text string) (api.Program, api.Errno, int) {
	var p api.Program
	lines := strings.SplitAfter(text, "\n")
	if len(lines) > 1 && lines[len(lines)-1] == "" {
		lines = lines[:len(lines)-1]
	}
	for i, line := range lines {
		fits := strings.HasSuffix(line, "\n")
		line = strings.TrimSuffix(line, "\n")
		if m := r.first.FindStringSubmatch(line); i == 0 {
			fits = fits && m != nil
			if fits {
				p.Fuel, _ = strconv.Atoi(m[1])
			}
		} else {
			x, ok := r.ins(line)
			fits = fits && ok
			p.Code = append(p.Code, x)
		}
		if !fits {
			return api.Program{}, api.ErrProgLine, i + 1
		}
	}
	switch e, at := modelCheck(p); e {
	case api.OK:
		return p, api.OK, 0
	case api.ErrProgFuel:
		return api.Program{}, e, 1
	case api.ErrProgMany:
		return api.Program{}, e, 0
	default:
		return api.Program{}, e, at + 2
	}
}

// modelUnpack: P5.3. It takes what it can read, in whatever form, and holds its bytes against those that were given.
func modelUnpack(b string) (api.Program, api.Errno) {
	if len(b) > 1024 {
		return api.Program{}, api.ErrProgLong
	}
	rest := []byte(b)
	next := func() int {
		n, used := binary.Uvarint(rest)
		if used <= 0 || n > 1<<20 {
			rest = nil
			return -1
		}
		rest = rest[used:]
		return int(n)
	}
	p := api.Program{Fuel: next()}
	many := next()
	for i := 0; i < many && len(rest) > 0; i++ {
		x := api.Ins{Op: next()}
		o, _ := names(x.Op)
		into := map[string]*int{"A": &x.A, "B": &x.B, "C": &x.C, "N": &x.N}
		for _, name := range o.names {
			switch {
			case name == "K" && len(rest) < 8:
				rest = nil
			case name == "K":
				x.K, rest = binary.BigEndian.Uint64(rest), rest[8:]
			default:
				*into[name] = next()
			}
		}
		p.Code = append(p.Code, x)
	}
	if e, _ := modelCheck(p); e != api.OK || modelBytes(p) != b {
		return api.Program{}, api.ErrProgForm
	}
	return p, api.OK
}

// same: a nil list and an empty one are the same.
func same(p, q api.Program) bool {
	return p.Fuel == q.Fuel && len(p.Code) == len(q.Code) && (len(p.Code) == 0 || reflect.DeepEqual(p.Code, q.Code))
}

func checkCheck(t *testing.T, p api.Program) {
	t.Helper()
	e, at := modelCheck(p)
	if f, place := prog.Check(p); f != e || place != at {
		t.Fatalf("Check(%v) = %d at %d, not %d at %d", p, f, place, e, at)
	}
	var text, bytes string
	if e == api.OK {
		text, bytes = modelText(p), modelBytes(p)
	}
	if s, f := prog.Print(p); s != text || f != e {
		t.Fatalf("Print(%v) = %q, %d, not %q, %d", p, s, f, text, e)
	}
	if b, f := prog.Pack(p); b != bytes || f != e {
		t.Fatalf("Pack(%v) = %x, %d, not %x, %d", p, b, f, bytes, e)
	}
}

func (r reader) checkParse(t *testing.T, text string) {
	t.Helper()
	p, e, at := r.parse(text)
	if q, f, place := prog.Parse(text); !same(p, q) || f != e || place != at {
		t.Fatalf("Parse(%q) = %v, %d at %d, not %v, %d at %d", text, q, f, place, p, e, at)
	}
}

func checkUnpack(t *testing.T, b string) {
	t.Helper()
	p, e := modelUnpack(b)
	if q, f := prog.Unpack(b); !same(p, q) || f != e {
		t.Fatalf("Unpack(%x) = %v, %d, not %v, %d", b, q, f, p, e)
	}
}

func source(seed uint64) *rand.Rand { return rand.New(rand.NewPCG(seed, 5)) }

// someBits: numbers that may be K.
func someBits() []uint64 {
	return []uint64{
		0, 1 << 63, 1, 0x3ff0000000000000, 0xbff0000000000000, 0x3ff8000000000000, 0x3fd5555555555555,
		0x7ff0000000000000, 0xfff0000000000000, 0x7fefffffffffffff, 0x000fffffffffffff, 0x0010000000000000, oneNaN,
	}
}

func otherNaNs() []uint64 {
	return []uint64{oneNaN - 1, oneNaN + 1, 0x7ff0000000000001, 0xfff8000000000001, 0xfff8000000000000, 1<<63 - 1, 1<<64 - 1}
}

// anyIns: an instruction that may be among so many.
func anyIns(rnd *rand.Rand, many int) api.Ins {
	o := allOps()[rnd.IntN(len(allOps()))]
	x := api.Ins{Op: o.number}
	into := map[string]*int{"A": &x.A, "B": &x.B, "C": &x.C}
	for _, name := range o.names {
		switch name {
		case "K":
			x.K = num.Canon(rnd.Uint64())
			if rnd.IntN(2) == 0 {
				x.K = someBits()[rnd.IntN(len(someBits()))]
			}
		case "N":
			x.N = rnd.IntN(many + 1)
		default:
			*into[name] = rnd.IntN(8)
		}
	}
	return x
}

// anyProgram: one that may be.
func anyProgram(rnd *rand.Rand) api.Program {
	many := 1 + rnd.IntN(6)
	if rnd.IntN(10) == 0 {
		many = 60 + rnd.IntN(5)
	}
	p := api.Program{Fuel: 1 + rnd.IntN(1024)}
	for range many {
		p.Code = append(p.Code, anyIns(rnd, many))
	}
	return p
}

// example: the chapter's.
func example() api.Program {
	return api.Program{Fuel: 9, Code: []api.Ins{{Op: api.OpSet, K: 0x3ff8000000000000}, {Op: api.OpEmit}, {Op: api.OpJump, N: 3}}}
}

// longest: as many instructions of the longest kind as may be.
func longest() api.Program {
	p := api.Program{Fuel: 1024}
	for range 64 {
		p.Code = append(p.Code, api.Ins{Op: api.OpSet, A: 7, K: 0x3fd5555555555555})
	}
	return p
}

// lineFeeds: the chapter's examples write a `;` for a line feed.
func lineFeeds(s string) string { return strings.ReplaceAll(s, ";", "\n") }
