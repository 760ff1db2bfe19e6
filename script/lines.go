package script

import (
	"strconv"
	"strings"

	"gaffer/api"
	"gaffer/coord"
	"gaffer/prog"
)

const (
	headWord   = "fleet"
	submitWord = "submit"
	between    = "; " // the lines of a program, where they stand in one line
)

// headNumbers: where a config's numbers stand, in their order.
func headNumbers(c *api.Config) []*int {
	return []*int{&c.Runners, &c.Lease, &c.Resend, &c.Attempts, &c.Window, &c.Quantum, &c.Block, &c.Every, &c.Half}
}

func headLine(c api.Config) string {
	line := headWord
	for _, n := range headNumbers(&c) {
		line += " " + strconv.Itoa(*n)
	}
	return line
}

func parseHead(line string) (api.Config, bool) {
	var c api.Config
	words, numbers := strings.Split(line, " "), headNumbers(&c)
	if words[0] != headWord || len(words) != 1+len(numbers) {
		return api.Config{}, false
	}
	for i, n := range numbers {
		value, fits := parseNumber(words[1+i])
		if !fits {
			return api.Config{}, false
		}
		*n = value
	}
	return c, coord.Check(c) == api.OK
}

func stepLine(s api.Step) string {
	if p, e := prog.Unpack(s.Text); s.Kind == api.StSubmit && e == api.OK {
		return programLine(p)
	}
	line := wordOf(s.Kind)
	fields, _ := fieldsOf(s.Kind)
	for _, letter := range fields {
		line += " " + fieldText(s, letter)
	}
	return line
}

func programLine(p api.Program) string {
	text, _ := prog.Print(p)
	return submitWord + " " + strings.ReplaceAll(strings.TrimSuffix(text, "\n"), "\n", between)
}

func parseStep(line string) (api.Step, bool) {
	if program, is := strings.CutPrefix(line, submitWord+" "); is {
		return parseProgram(program)
	}
	words := strings.Split(line, " ")
	s := api.Step{Kind: kindNamed(words[0])}
	fields, known := fieldsOf(s.Kind)
	if !known || len(words) != 1+len(fields) {
		return api.Step{}, false
	}
	for i, letter := range fields {
		if !parseField(&s, letter, words[1+i]) {
			return api.Step{}, false
		}
	}
	// The bytes of a program have a line of another form.
	_, e := prog.Unpack(s.Text)
	return s, s.Kind != api.StSubmit || e != api.OK
}

// parseProgram: the step that submits the program of a line.
func parseProgram(line string) (api.Step, bool) {
	p, e, _ := prog.Parse(strings.ReplaceAll(line, between, "\n") + "\n")
	if e != api.OK {
		return api.Step{}, false
	}
	b, e := prog.Pack(p)
	return api.Step{Kind: api.StSubmit, Text: b}, e == api.OK
}
