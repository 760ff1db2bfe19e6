package pack_test

import (
	mathbits "math/bits"
	"math/rand/v2"
	"strings"
	"testing"

	"gaffer/api"
	"gaffer/pack"
)

func TestP2_5BytesOfANumber(t *testing.T) {
	for _, n := range edges() {
		if want := max(1, (mathbits.Len64(n)+6)/7); len(pack.Num(n)) != want {
			t.Errorf("%d: %d bytes", n, len(pack.Num(n)))
		}
	}
}

// laid: a thing, its form, and the call that reads it with the least bound.
type laid struct {
	form string
	call call
	num  uint64
	text string
}

func someThing(s *rand.Rand) laid {
	n := s.Uint64() >> s.IntN(64)
	switch s.IntN(4) {
	case 0:
		return laid{form: pack.Num(n), call: call{"Num", n}, num: n}
	case 1:
		n >>= 1
		return laid{form: pack.Num(n), call: call{"List", n}, num: n}
	case 2:
		text := strings.Repeat("\xffa\x00", s.IntN(100))
		return laid{form: pack.Text(text), call: call{"Text", uint64(len(text))}, text: text}
	}
	return laid{form: pack.Bits(n), call: call{"Bits", 0}, num: n}
}

func TestP2_5ThereAndBack(t *testing.T) {
	s := rand.New(rand.NewPCG(2, 5))
	for range 2000 {
		var things []laid
		var b strings.Builder
		for range s.IntN(10) {
			thing := someThing(s)
			things = append(things, thing)
			b.WriteString(thing.form)
		}
		r := pack.Read(b.String())
		for _, thing := range things {
			if n, text := thing.call.do(r); n != thing.num || text != thing.text {
				t.Fatalf("%x: %v: %d, %q", b.String(), thing.call, n, text)
			}
		}
		checkEnd(t, r, api.OK, 0)
	}
}

// lay: what a call has read, laid again.
func (c call) lay(n uint64, text string) string {
	switch c.name {
	case "Text":
		return pack.Text(text)
	case "Bits":
		return pack.Bits(n)
	}
	return pack.Num(n)
}

func TestP2_5OneForm(t *testing.T) {
	s := rand.New(rand.NewPCG(5, 2))
	many := 0
	for range 50000 {
		b := someBytes(s)
		r := pack.Read(b)
		for range 4 {
			c, begin := someCall(s), r.At()
			n, text := c.do(r)
			if e, _ := r.Fault(); e != api.OK {
				break
			}
			many++
			if c.lay(n, text) != b[begin:r.At()] {
				t.Fatalf("%x: %v at %d: %d, %q", b, c, begin, n, text)
			}
		}
	}
	if many < 20000 {
		t.Error("too few: ", many)
	}
}
