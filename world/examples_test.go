package world_test

import (
	"slices"
	"strings"
	"testing"

	"gaffer/api"
)

// The examples of the chapter.
func TestExamples(t *testing.T) {
	transcript(t, head+"submit fuel 9; set r0 1p0; emit r0; halt\nsettle 5\ndrop 9\n", `1 submitted 1
2 granted 1 2 2 1
2 emitted 2 1 1 2 0 317030
2 ended 2 1 1 2 1 0 3ff0000000000000
2 stored 1 2 0 317030
2 admitted 1 2 0 -
3 refused 30
job 1 2 1 2 2 1 0 0000000000000000 317030
artefact 1 2
under way 3
faults 0
`)
	refused(t, "", api.ErrScriptHead, 1)
	line(t, api.Event{Kind: api.EvShown, Job: 1, Badge: 0, Status: 1}, "shown 1 0 1 0 0000000000000000")
	line(t, api.Event{Kind: 15}, "")
}

const example = "submit fuel 9; set r0 1p0; emit r0; halt\n"

// The examples of the whole: the first one, round by round.
func TestWholeRounds(t *testing.T) {
	transcript(t, head+example+strings.Repeat("round\n", 7), `1 submitted 1
2 -
3 -
4 granted 1 2 2 1
5 -
6 emitted 2 1 1 2 0 317030
6 ended 2 1 1 2 1 0 3ff0000000000000
6 stored 1 2 0 317030
6 admitted 1 2 0 -
7 -
8 recorded 1 2 0 3ff0000000000000
job 1 3 1 2 0 0 0 3ff0000000000000 317030
artefact 1 2
under way 1
faults 0
`)
}

// The second one: the power goes in the record of a submission.
func TestWholeCutSubmission(t *testing.T) {
	for _, x := range []struct{ cut, told string }{
		{"cut 1 0", ""}, {"cut 1 128", ""}, {"cut 2 0", ""}, {"cut 2 128", "4 shown 1 0 1 0 0000000000000000\n"},
	} {
		job := ""
		if x.told != "" {
			job = "job 1 1 0 0 0 0 0 0000000000000000\n"
		}
		transcript(t, head+x.cut+"\n"+example+"round\nstart 0 0 0\n", "1 -\n2 down 0 0\n3 -\n4 up 0 0\n"+x.told+job+"under way 0\nfaults 0\n")
	}
}

// The third one: the Grant of the badge 2 lies on the disk, and the Offer is not said.
func TestWholeCutGrant(t *testing.T) {
	script := head + example + "settle 2\ncut 2 128\nround\nstart 0 0 0\nsettle 40\n"
	got := tells(t, script)
	for _, want := range []string{"4 down 0 0", "5 up 0 0", "5 shown 1 2 2 0 0000000000000000", "6 expired 1 2", "6 granted 1 6 2 1"} {
		if !slices.Contains(got, want) {
			t.Errorf("not %q in\n%s", want, strings.Join(got, "\n"))
		}
	}
}

// The fifth and the eighth one: a runner that crashed is given up by ticks alone; behind its last attempt the job is lost.
func TestWholeLost(t *testing.T) {
	script := head + example + "settle 3\ncrash 2\nsettle 40\nstart 2 0 0\nsettle 4\ncrash 2\nsettle 39\nround\n"
	got := tells(t, script)
	for _, want := range []string{"2 granted 1 2 2 1", "3 down 2 1", "4 expired 1 2", "5 up 2 2", "7 down 2 2", "under way 0", "faults 0"} {
		if !slices.Contains(got, want) {
			t.Errorf("not %q in\n%s", want, strings.Join(got, "\n"))
		}
	}
	if !slices.ContainsFunc(got, func(s string) bool { return strings.Contains(s, " lost 1 ") }) {
		t.Errorf("not lost:\n%s", strings.Join(got, "\n"))
	}
}
