package script_test

import (
	"slices"
	"testing"

	"gaffer/api"
	"gaffer/script"
)

func TestP23_1Examples(t *testing.T) {
	for _, x := range []struct {
		steps []api.Step
		lines string
	}{
		{[]api.Step{submits("\x09\x01\x18"), {Kind: api.StTick}, {Kind: api.StStart}}, "submit fuel 9; halt\ntick 0\nstart 0 0 0\n"},
		{[]api.Step{submits(""), injects(2, "\x00\xff"), {Kind: api.StCut, K: 3, X: -1}}, "bytes -\ninject 2 00ff\ncut 3 -1\n"},
	} {
		if text, e := prints(t, config(), x.steps); text != head+x.lines || e != api.OK {
			t.Errorf("%q, %d", text, e)
		}
		if c, l, e, line := parses(t, head+x.lines); c != config() || !slices.Equal(l, x.steps) || e != api.OK || line != 0 {
			t.Errorf("%q: %v, %v, %d at %d", x.lines, c, l, e, line)
		}
	}
}

func TestP23_2Examples(t *testing.T) {
	if c, l, e, line := parses(t, head); c != config() || len(l) != 0 || e != api.OK || line != 0 {
		t.Errorf("%v, %v, %d at %d", c, l, e, line)
	}
	for _, s := range []string{"round", "round 1\n", "tick\n", "tick 01\n", "\n", " round\n", "submit\n", "submit fuel 9\n", "submit fuel 9;halt\n", "submit fuel 9; halt; \n", "bytes 090118\n"} {
		refused(t, head+s, api.ErrScriptStep, 2)
	}
	refused(t, head+"bytes 09011a\nbytes 090118\n", api.ErrScriptStep, 3)
	for _, s := range []string{"", "fleet 0 40 2 2 2 8 4 4 160\n"} {
		refused(t, s, api.ErrScriptHead, 1)
	}
}

// A script of each kind, as the chapter's table has it.
func TestP23_1TheTable(t *testing.T) {
	l := []api.Step{
		submits(packed("fuel 1024; set r0 -3p-1; if r0 3; add r0 r1 r2; ret")), submits("\x09\x01"), {Kind: api.StTick, A: 1}, {Kind: api.StStep, A: -2},
		{Kind: api.StDeliver, K: 3}, {Kind: api.StDrop, K: -4}, {Kind: api.StDup, K: 10}, injects(-5, "aé\xff\n"), {Kind: api.StCrash, A: 6},
		{Kind: api.StStart, A: 1, K: 22, X: 333}, {Kind: api.StCut, K: 44, X: 128}, {Kind: api.StRound}, {Kind: api.StSettle, K: 1000000000000},
	}
	const lines = `submit fuel 1024; set r0 -3p-1; if r0 3; add r0 r1 r2; ret
bytes 0901
tick 1
step -2
deliver 3
drop -4
dup 10
inject -5 61c3a9ff0a
crash 6
start 1 22 333
cut 44 128
round
settle 1000000000000
`
	c := api.Config{Runners: 8, Lease: 256, Resend: 16, Attempts: 7, Window: 6, Quantum: 64, Block: 15, Every: 14, Half: 512}
	if text, e := script.Print(c, l); text != "fleet 8 256 16 7 6 64 15 14 512\n"+lines || e != api.OK {
		t.Errorf("%q, %d", text, e)
	}
	if d, m, e, line := script.Parse("fleet 8 256 16 7 6 64 15 14 512\n" + lines); d != c || !slices.Equal(m, l) || e != api.OK || line != 0 {
		t.Errorf("%v, %v, %d at %d", d, m, e, line)
	}
}
