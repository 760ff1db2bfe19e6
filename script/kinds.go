package script

import (
	"slices"
	"strconv"

	"gaffer/api"
)

// textField: the letter of a step's Text; its numbers are named by their own ones.
const textField = 'T'

// kindWords: by their kinds; ahead of the first one there is none. A program that is submitted has a word of its own.
func kindWords() []string {
	return []string{
		api.StSubmit:  "bytes",
		api.StTick:    "tick",
		api.StStep:    "step",
		api.StDeliver: "deliver",
		api.StDrop:    "drop",
		api.StDup:     "dup",
		api.StInject:  "inject",
		api.StCrash:   "crash",
		api.StStart:   "start",
		api.StCut:     "cut",
		api.StRound:   "round",
		api.StSettle:  "settle",
	}
}

func wordOf(kind int) string { return kindWords()[kind] }

// kindNamed: of a word; that of no word, or of the empty one, is no kind.
func kindNamed(word string) int { return slices.Index(kindWords(), word) }

// fieldsOf: the letters of a kind's fields, in the order in which its line has them; false: there is no such kind.
func fieldsOf(kind int) (string, bool) {
	fields := ""
	switch kind {
	case api.StRound:
	case api.StSubmit:
		fields = "T"
	case api.StInject:
		fields = "AT"
	case api.StTick, api.StStep, api.StCrash:
		fields = "A"
	case api.StDeliver, api.StDrop, api.StDup, api.StSettle:
		fields = "K"
	case api.StStart:
		fields = "A"
		fallthrough // a start has a node, and what a cut has
	case api.StCut:
		fields += "KX"
	default:
		return "", false
	}
	return fields, true
}

// mayBe tells whether a step is of a kind, and has its fields alone.
func mayBe(s api.Step) bool {
	fields, known := fieldsOf(s.Kind)
	for _, letter := range fields {
		if letter == textField {
			s.Text = ""
		} else {
			*numberField(&s, letter) = 0
		}
	}
	return known && s == api.Step{Kind: s.Kind}
}

func numberField(s *api.Step, letter rune) *int {
	switch letter {
	case 'A':
		return &s.A
	case 'K':
		return &s.K
	}
	return &s.X
}

func fieldText(s api.Step, letter rune) string {
	if letter == textField {
		return bytesText(s.Text)
	}
	return strconv.Itoa(*numberField(&s, letter))
}

// parseField lays what a word says into s; false: it is not of its form.
func parseField(s *api.Step, letter rune, word string) bool {
	fits := false
	if letter == textField {
		s.Text, fits = parseBytes(word)
	} else {
		*numberField(s, letter), fits = parseNumber(word)
	}
	return fits
}
