package script_test

import (
	"encoding/hex"
	"fmt"
	"regexp"
	"slices"
	"strconv"
	"strings"
	"sync"

	"gaffer/api"
	"gaffer/prog"
)

// The chapter's words, told a second time: its table as a text, the lines by patterns, bytes by another library.

const table = `tick A|step A|deliver K|drop K|dup K|inject A Text|crash A|start A K X|cut K X|round|settle K`

// kind: of the chapter's table, but that of submissions.
type kind struct {
	number int
	word   string
	names  []string
	form   *regexp.Regexp
}

func (k kind) has(name string) bool { return slices.Contains(k.names, name) }

var allKinds = sync.OnceValue(func() []kind {
	const number = ` (0|-?[1-9][0-9]*)`
	forms := map[string]string{"A": number, "K": number, "X": number, "Text": ` (-|(?:[0-9a-f]{2})+)`}
	var l []kind
	for i, row := range strings.Split(table, "|") {
		parts := strings.Fields(row)
		form := `\A` + parts[0]
		for _, name := range parts[1:] {
			form += forms[name]
		}
		l = append(l, kind{i + 2, parts[0], parts[1:], regexp.MustCompile(form + `\z`)})
	}
	return l
})

var headForm = sync.OnceValue(func() *regexp.Regexp {
	return regexp.MustCompile(`\Afleet` + strings.Repeat(` (0|-?[1-9][0-9]*)`, 9) + `\z`)
})

var bytesForm = sync.OnceValue(func() *regexp.Regexp { return regexp.MustCompile(`\Abytes (-|(?:[0-9a-f]{2})+)\z`) })

// modelConfig: whether a config may be.
func modelConfig(c api.Config) bool {
	within := func(n, least, most int) bool { return least <= n && n <= most }
	return within(c.Runners, 1, 8) && within(c.Lease, 1, 256) && within(c.Resend, 1, 16) && within(c.Attempts, 1, 8) && within(c.Window, 1, 8) &&
		within(c.Quantum, 1, 64) && within(c.Block, 1, 16) && within(c.Every, 1, 16) && within(c.Half, 160, 512)
}

// modelStep: whether a step is of a kind, and has its fields alone.
func modelStep(s api.Step) bool {
	if s.Kind == 1 {
		return s.A == 0 && s.K == 0 && s.X == 0
	}
	for _, k := range allKinds() {
		if k.number == s.Kind {
			return (k.has("A") || s.A == 0) && (k.has("K") || s.K == 0) && (k.has("X") || s.X == 0) && (k.has("Text") || s.Text == "")
		}
	}
	return false
}

func modelBytes(text string) string {
	if text == "" {
		return "-"
	}
	return hex.EncodeToString([]byte(text))
}

// modelLine: the line of a step that may be, without its line feed.
func modelLine(s api.Step) string {
	if s.Kind == 1 {
		p, e := prog.Unpack(s.Text)
		if e != api.OK {
			return "bytes " + modelBytes(s.Text)
		}
		text, _ := prog.Print(p)
		lines := strings.Split(text, "\n")
		return "submit " + strings.Join(lines[:len(lines)-1], "; ")
	}
	k := allKinds()[s.Kind-2]
	line := k.word
	for _, name := range k.names {
		line += " " + map[string]string{"A": fmt.Sprint(s.A), "K": fmt.Sprint(s.K), "X": fmt.Sprint(s.X), "Text": modelBytes(s.Text)}[name]
	}
	return line
}

func modelHead(c api.Config) string {
	return fmt.Sprintf("fleet %d %d %d %d %d %d %d %d %d", c.Runners, c.Lease, c.Resend, c.Attempts, c.Window, c.Quantum, c.Block, c.Every, c.Half)
}

// modelPrint: P23.1.
func modelPrint(c api.Config, l []api.Step) (string, api.Errno) {
	switch {
	case !modelConfig(c):
		return "", api.ErrScriptHead
	case len(l) > 2000:
		return "", api.ErrScriptLong
	case slices.ContainsFunc(l, func(s api.Step) bool { return !modelStep(s) }):
		return "", api.ErrScriptStep
	}
	lines := []string{modelHead(c)}
	for _, s := range l {
		lines = append(lines, modelLine(s))
	}
	text := strings.Join(lines, "\n") + "\n"
	if len(text) > 32768 || slices.ContainsFunc(lines, func(line string) bool { return len(line) > 4096 }) {
		return "", api.ErrScriptLong
	}
	return text, api.OK
}

// reads: the numbers of words; false, if one is beyond an int.
func reads(words []string, into ...*int) bool {
	for i, n := range into {
		value, err := strconv.ParseInt(words[i], 10, 64)
		if err != nil {
			return false
		}
		*n = int(value)
	}
	return true
}

func readHead(line string) (api.Config, bool) {
	m := headForm().FindStringSubmatch(line)
	if m == nil {
		return api.Config{}, false
	}
	var c api.Config
	ok := reads(m[1:], &c.Runners, &c.Lease, &c.Resend, &c.Attempts, &c.Window, &c.Quantum, &c.Block, &c.Every, &c.Half)
	return c, ok && modelConfig(c)
}

func readBytes(word string) string {
	if word == "-" {
		return ""
	}
	b, err := hex.DecodeString(word)
	if err != nil {
		panic(err)
	}
	return string(b)
}

// readStep: the step whose line that is.
func readStep(line string) (api.Step, bool) {
	if rest, is := strings.CutPrefix(line, "submit "); is {
		p, e, _ := prog.Parse(strings.Join(strings.Split(rest, "; "), "\n") + "\n")
		b, _ := prog.Pack(p)
		return api.Step{Kind: 1, Text: b}, e == api.OK
	}
	if m := bytesForm().FindStringSubmatch(line); m != nil {
		text := readBytes(m[1])
		_, e := prog.Unpack(text)
		return api.Step{Kind: 1, Text: text}, e != api.OK
	}
	for _, k := range allKinds() {
		m := k.form.FindStringSubmatch(line)
		if m == nil {
			continue
		}
		s := api.Step{Kind: k.number}
		for i, name := range k.names {
			if name == "Text" {
				s.Text = readBytes(m[1+i])
			} else if !reads(m[1+i:], map[string]*int{"A": &s.A, "K": &s.K, "X": &s.X}[name]) {
				return api.Step{}, false
			}
		}
		return s, true
	}
	return api.Step{}, false
}

// modelParse: P23.2.
func modelParse(text string) (api.Config, []api.Step, api.Errno, int) {
	wrong := func(e api.Errno, line int) (api.Config, []api.Step, api.Errno, int) {
		return api.Config{}, nil, e, line
	}
	if len(text) > 32768 {
		return wrong(api.ErrScriptLong, 0)
	}
	lines := strings.SplitAfter(text, "\n")
	if len(lines) > 1 && lines[len(lines)-1] == "" {
		lines = lines[:len(lines)-1]
	}
	var c api.Config
	var l []api.Step
	for i, line := range lines {
		line, ended := strings.CutSuffix(line, "\n")
		if len(line) > 4096 || i > 2000 {
			return wrong(api.ErrScriptLong, i+1)
		}
		if i == 0 {
			head, fits := readHead(line)
			if !ended || !fits {
				return wrong(api.ErrScriptHead, 1)
			}
			c = head
			continue
		}
		s, fits := readStep(line)
		if !ended || !fits {
			return wrong(api.ErrScriptStep, i+1)
		}
		l = append(l, s)
	}
	return c, l, api.OK, 0
}
