package script

import (
	"strconv"
	"strings"
	"unicode/utf8"
)

const (
	noBytes = "-"
	digits  = "0123456789abcdef"
)

// parseNumber: there is one text of a number, the one that strconv writes.
func parseNumber(word string) (int, bool) {
	n, err := strconv.Atoi(word)
	return n, err == nil && strconv.Itoa(n) == word
}

func bytesText(text string) string {
	if text == "" {
		return noBytes
	}
	var b strings.Builder
	// The range tells where each character begins: all of its bytes are written.
	for at := range text {
		_, size := utf8.DecodeRuneInString(text[at:])
		for _, c := range []byte(text[at : at+size]) {
			b.WriteByte(digits[c>>4])
			b.WriteByte(digits[c&15])
		}
	}
	return b.String()
}

func parseBytes(word string) (string, bool) {
	if word == noBytes {
		return "", true
	}
	if word == "" || len(word)%2 != 0 {
		return "", false
	}
	b := make([]byte, 0, len(word)/2)
	for at := 0; at < len(word); at += 2 {
		high, low := strings.IndexByte(digits, word[at]), strings.IndexByte(digits, word[at+1])
		if high < 0 || low < 0 {
			return "", false
		}
		b = append(b, byte(high<<4|low))
	}
	return string(b), true
}
