package world_test

import (
	"encoding/hex"
	"fmt"
	"strings"

	"gaffer/api"
	"gaffer/audit"
	"gaffer/cluster"
	"gaffer/script"
)

// The chapter's words, told a second time: its table as a text, numbers and bytes by other libraries.

const table = `refused Code|submitted Job|down Who|up Who|granted Job Badge Who|expired Job Badge|lost Job Badge|stored Job Badge Index Texts|recorded Job Badge Result|emitted Who Job Badge Index Text|wrote Who Job Badge Index Text|ended Who Job Badge Count Result|admitted Job Badge Index Text|shown Job Badge Status Result Texts`

// allFields: all that the table names.
const allFields = "Code Job Badge Index Count Status Who Result Text Texts"

// namesOf: the name of a kind, and of its fields; none, if it is no kind.
func namesOf(kind int) []string {
	rows := strings.Split(table, "|")
	if kind < 1 || kind > len(rows) {
		return nil
	}
	return strings.Fields(rows[kind-1])
}

func modelBytes(text string) string {
	if text == "" {
		return "-"
	}
	return hex.EncodeToString([]byte(text))
}

// modelTexts: each with a blank ahead.
func modelTexts(l []string) string {
	s := ""
	for _, text := range l {
		s += " " + modelBytes(text)
	}
	return s
}

func modelResult(r api.Result) string { return fmt.Sprintf("%d %016x", r.Code, r.Bits) }

func modelAddress(a api.Addr) string { return fmt.Sprintf("%d %d", a.Node, a.Life) }

// modelField: a field's words, each with a blank ahead.
func modelField(e api.Event, name string) string {
	switch name {
	case "Code":
		return fmt.Sprintf(" %d", int(e.Code))
	case "Job":
		return fmt.Sprintf(" %d", e.Job)
	case "Badge":
		return fmt.Sprintf(" %d", e.Badge)
	case "Index":
		return fmt.Sprintf(" %d", e.Index)
	case "Count":
		return fmt.Sprintf(" %d", e.Count)
	case "Status":
		return fmt.Sprintf(" %d", e.Status)
	case "Who":
		return " " + modelAddress(e.Who)
	case "Result":
		return " " + modelResult(e.Result)
	case "Text":
		return " " + modelBytes(e.Text)
	case "Texts":
		return modelTexts(e.Texts)
	}
	panic(name)
}

// modelLine: P24.1.
func modelLine(e api.Event) string {
	s := ""
	for i, name := range namesOf(e.Kind) {
		if i == 0 {
			s = name
		} else {
			s += modelField(e, name)
		}
	}
	return s
}

// modelStands: what the points 2 to 4 of P24.2 ask for.
func modelStands(x *cluster.Cluster) string {
	s := ""
	if !x.Up(0) {
		s = "down\n"
	}
	v, _ := x.View()
	for _, p := range v.Jobs {
		r := p.Row
		s += fmt.Sprintf("job %d %d %d %d %s %s%s\n", r.Job, r.Status, r.Attempts, r.Badge, modelAddress(r.Holder), modelResult(r.Result), modelTexts(p.Log))
	}
	for _, a := range x.Artefacts() {
		s += fmt.Sprintf("artefact %d %d%s\n", a.Job, a.Badge, modelTexts(a.Pieces))
	}
	return s + fmt.Sprintf("under way %d\n", len(x.Bag()))
}

// modelFaults: the point 5.
func modelFaults(l []api.Event) string {
	faults, e := audit.All(l)
	if e == api.ErrAuditMany {
		return "faults many\n"
	}
	return fmt.Sprintf("faults %d\n", len(faults))
}

// modelRun: P24.2.
func modelRun(text string) (string, int, api.Errno) {
	c, l, e, line := script.Parse(text)
	if e != api.OK {
		return "", line, e
	}
	all, _ := cluster.Run(c, l)
	x, _ := cluster.New(c)
	var b strings.Builder
	var history []api.Event
	for i, told := range all {
		x.Step(l[i])
		history = append(history, told...)
		if len(told) == 0 {
			fmt.Fprintf(&b, "%d -\n", i+1)
		}
		for _, e := range told {
			fmt.Fprintf(&b, "%d %s\n", i+1, modelLine(e))
		}
	}
	return b.String() + modelStands(x) + modelFaults(history), 0, api.OK
}
