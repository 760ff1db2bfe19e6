package world

import (
	"slices"
	"strconv"
	"strings"

	"gaffer/api"
)

const (
	nothing    = "-" // the word of no bytes, and of no events
	digits     = "0123456789abcdef"
	bitsDigits = 16 // of a result
)

// line is the words of one, with a blank between each two.
func line(first string, rest ...[]string) string {
	return strings.Join(append([]string{first}, slices.Concat(rest...)...), " ")
}

func numbers(l ...int) []string {
	var out []string
	for _, n := range l {
		out = append(out, strconv.Itoa(n))
	}
	return out
}

func address(a api.Addr) []string { return numbers(a.Node, a.Life) }

func result(r api.Result) []string {
	bits := strconv.FormatUint(r.Bits, len(digits))
	return append(numbers(r.Code), strings.Repeat("0", bitsDigits-len(bits))+bits)
}

// texts: one word each.
func texts(l ...string) []string {
	var out []string
	for _, s := range l {
		out = append(out, bytesWord(s))
	}
	return out
}

func bytesWord(s string) string {
	if s == "" {
		return nothing
	}
	var b strings.Builder
	b.Grow(2 * len(s))
	for i := range len(s) { // a byte each: a range over the text would tell characters
		b.WriteByte(digits[s[i]>>4])
		b.WriteByte(digits[s[i]&15])
	}
	return b.String()
}
