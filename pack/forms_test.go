package pack_test

import (
	"math/rand/v2"
	"strings"
	"testing"

	"gaffer/pack"
)

func TestP2_1Examples(t *testing.T) {
	for n, form := range map[uint64]string{
		0: "\x00", 127: "\x7f", 128: "\x80\x01", 300: "\xac\x02",
		most64: "\xff\xff\xff\xff\xff\xff\xff\xff\xff\x01",
	} {
		if pack.Num(n) != form {
			t.Errorf("Num(%d): %x", n, pack.Num(n))
		}
	}
	if s := pack.Text("ab"); s != "\x02ab" {
		t.Errorf("Text: %x", s)
	}
	if s := pack.Text(""); s != "\x00" {
		t.Errorf("Text of nothing: %x", s)
	}
	if s := pack.Bits(258); s != "\x00\x00\x00\x00\x00\x00\x01\x02" {
		t.Errorf("Bits: %x", s)
	}
}

func TestP2_1Numbers(t *testing.T) {
	l := edges()
	s := rand.New(rand.NewPCG(2, 1))
	for range 5000 {
		l = append(l, s.Uint64()>>s.IntN(64))
	}
	for _, n := range l {
		if pack.Num(n) != formOf(n) {
			t.Errorf("Num(%d): %x", n, pack.Num(n))
		}
		if pack.Bits(n) != bitsForm(n) {
			t.Errorf("Bits(%x): %x", n, pack.Bits(n))
		}
	}
}

func TestP2_1Texts(t *testing.T) {
	for _, size := range []int{0, 1, 2, 31, 32, 126, 127, 128, 129, 16383, 16384, 100000} {
		for _, part := range []string{"a", "\x00", "\x80", "\xff", "ä"} {
			s := strings.Repeat(part, size)
			if pack.Text(s) != formOf(uint64(len(s)))+s {
				t.Errorf("Text of %d times %q", size, part)
			}
		}
	}
}
