package prog

import (
	"iter"
	"strconv"
	"strings"

	"gaffer/api"
	"gaffer/num"
)

const (
	fuelWord   = "fuel"
	mostDigits = 9
	mostWords  = 1 + mostFields
)

// Print: its text.
func Print(p api.Program) (string, api.Errno) {
	if e, _ := Check(p); e != api.OK {
		return "", e
	}
	var b strings.Builder
	b.WriteString(fuelWord + " " + strconv.Itoa(p.Fuel) + "\n")
	for _, ins := range p.Code {
		b.WriteString(insText(ins) + "\n")
	}
	return b.String(), api.OK
}

func insText(ins api.Ins) string {
	s, _ := shapeOf(ins.Op)
	text := s.word
	for _, letter := range s.fields {
		text += " " + fieldText(letter, get(ins, letter))
	}
	return text
}

func fieldText(letter rune, value uint64) string {
	switch letter {
	case 'K':
		return num.Text(value)
	case 'N':
		return strconv.FormatUint(value, 10)
	}
	return "r" + strconv.FormatUint(value, 10)
}

// Parse: the program of a text; else the line that is wrong.
func Parse(text string) (api.Program, api.Errno, int) {
	var p api.Program
	for number, line := range lines(text) {
		if !parseLine(&p, number, line) {
			return api.Program{}, api.ErrProgLine, number
		}
	}
	if e, at := Check(p); e != api.OK {
		return api.Program{}, e, lineOf(e, at)
	}
	return p, api.OK, 0
}

// lineOf: the line on which an error of Check's stands.
func lineOf(e api.Errno, at int) int {
	switch e {
	case api.ErrProgFuel:
		return 1
	case api.ErrProgMany:
		return 0
	}
	return at + 2
}

// lines: a text's lines, with their line feeds, and their numbers from 1 on. Of the empty text it tells one, which has no line feed: something is wrong there, too.
func lines(text string) iter.Seq2[int, string] {
	return func(yield func(int, string) bool) {
		rest := text
		for number := 1; number == 1 || rest != ""; number++ {
			end := strings.IndexByte(rest, '\n') + 1
			if end == 0 {
				end = len(rest)
			}
			if !yield(number, rest[:end]) {
				return
			}
			rest = rest[end:]
		}
	}
}

// parseLine lays what a line says into p; false: it is not of its form.
func parseLine(p *api.Program, number int, line string) bool {
	line, ended := strings.CutSuffix(line, "\n")
	if !ended {
		return false
	}
	if number == 1 {
		return parseFuel(p, line)
	}
	ins, fits := parseIns(line)
	// One too many is enough to tell that they are too many, however long the text is.
	if fits && len(p.Code) <= api.MaxCode {
		p.Code = append(p.Code, ins)
	}
	return fits
}

func parseFuel(p *api.Program, line string) bool {
	digits, fits := strings.CutPrefix(line, fuelWord+" ")
	if !fits {
		return false
	}
	n, fits := parseNumber(digits)
	p.Fuel = int(n)
	return fits
}

func parseIns(line string) (api.Ins, bool) {
	words := strings.SplitN(line, " ", mostWords+1)
	s, found := shapeNamed(words[0])
	if !found || len(words) != 1+len(s.fields) {
		return api.Ins{}, false
	}
	ins := api.Ins{Op: s.op}
	for i, letter := range s.fields {
		value, fits := parseField(letter, words[1+i])
		if !fits {
			return api.Ins{}, false
		}
		set(&ins, letter, value)
	}
	return ins, true
}

func parseField(letter rune, word string) (uint64, bool) {
	switch letter {
	case 'K':
		value, e := num.Parse(word)
		return value, e == api.OK
	case 'N':
		return parseNumber(word)
	}
	return parseRegister(word)
}

func parseRegister(word string) (uint64, bool) {
	digits, fits := strings.CutPrefix(word, "r")
	if !fits {
		return 0, false
	}
	n, fits := parseNumber(digits)
	return n, fits && n < api.MaxRegs
}

// parseNumber: a number of at most nine digits. There is one text of it, the one that strconv writes: a nought ahead of others is none.
func parseNumber(digits string) (uint64, bool) {
	if len(digits) > mostDigits {
		return 0, false
	}
	n, err := strconv.ParseUint(digits, 10, 64)
	return n, err == nil && strconv.FormatUint(n, 10) == digits
}
