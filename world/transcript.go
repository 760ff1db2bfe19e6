package world

import (
	"strconv"
	"strings"

	"gaffer/api"
	"gaffer/audit"
	"gaffer/cluster"
)

// transcript is lines, each with a line feed behind it, and the events of all steps up to now: an audit looks at them as one history.
type transcript struct {
	text    strings.Builder
	history []api.Event
}

func (t *transcript) add(line string) {
	t.text.WriteString(line)
	t.text.WriteByte('\n')
}

// step tells what one did; each has a line, also the one that did nothing.
func (t *transcript) step(number int, told []api.Event) {
	ahead := strconv.Itoa(number) + " "
	for _, e := range told {
		t.add(ahead + Line(e))
	}
	if len(told) == 0 {
		t.add(ahead + nothing)
	}
	t.history = append(t.history, told...)
}

// end tells how a fleet stands, and what an audit finds.
func (t *transcript) end(x *cluster.Cluster) {
	v, up := x.View()
	if !up {
		t.add("down")
	}
	for _, p := range v.Jobs {
		r := p.Row
		t.add(line("job", numbers(r.Job, r.Status, r.Attempts, r.Badge), address(r.Holder), result(r.Result), texts(p.Log...)))
	}
	for _, a := range x.Artefacts() {
		t.add(line("artefact", numbers(a.Job, a.Badge), texts(a.Pieces...)))
	}
	t.add(line("under way", numbers(len(x.Bag()))))
	t.add(faults(t.history))
}

// faults is the line of how many a history has.
func faults(history []api.Event) string {
	l, e := audit.All(history)
	if e == api.ErrAuditMany {
		return line("faults many")
	}
	return line("faults", numbers(len(l)))
}
