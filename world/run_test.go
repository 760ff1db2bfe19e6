package world_test

import (
	"fmt"
	"slices"
	"strings"
	"testing"

	"gaffer/api"
	"gaffer/script"
	"gaffer/world"
)

// What script.Parse refuses is refused, with its line and its error, and nothing is told.
func TestP24_2Refused(t *testing.T) {
	refused(t, "", api.ErrScriptHead, 1)
	refused(t, "\n", api.ErrScriptHead, 1)
	refused(t, strings.TrimSuffix(head, "\n"), api.ErrScriptHead, 1)
	refused(t, "fleet 0 40 2 2 2 8 4 4 160\n", api.ErrScriptHead, 1)
	refused(t, "fleet 1 40 2 2 2 8 4 4 159\nround\n", api.ErrScriptHead, 1)
	refused(t, "round\n"+head, api.ErrScriptHead, 1)
	refused(t, head+"round", api.ErrScriptStep, 2)
	refused(t, head+"round 1\n", api.ErrScriptStep, 2)
	refused(t, head+"round\n\nround\n", api.ErrScriptStep, 3)
	refused(t, head+head, api.ErrScriptStep, 2)
	refused(t, head+strings.Repeat("round\n", 500)+"rounds\n", api.ErrScriptStep, 502)
	refused(t, head+"bytes "+strings.Repeat("00", api.MaxLine)+"\n", api.ErrScriptLong, 2)
	refused(t, head+strings.Repeat("round\n", api.MaxSteps+1), api.ErrScriptLong, api.MaxSteps+2)
	refused(t, head+strings.Repeat("drop 99999999999999\n", api.MaxSteps), api.ErrScriptLong, 0)
	refused(t, strings.Repeat("x", api.MaxScript+1), api.ErrScriptLong, 0)
}

// Scripts that are changed in one place: refused, or played, as script.Parse says.
func TestP24_2Spoilt(t *testing.T) {
	rnd := newRand(2)
	taken, not := 0, 0
	for range 6 {
		c, l := walked(t, rnd, 30)
		text := printed(t, c, l[:min(30, len(l))])
		for range 300 {
			at := rnd.Intn(len(text) + 1)
			b := []byte(text[:at] + string("0123456789abcdef- \nx\xff"[rnd.Intn(21)]) + text[at:])
			if rnd.Intn(2) == 0 && at < len(text) {
				b = slices.Delete(b, at+1, at+2)
			}
			if _, _, e := runs(t, string(b)); e == api.OK {
				taken++
			} else {
				not++
			}
		}
	}
	if taken < 120 || not < 800 {
		t.Errorf("just %d taken, %d refused", taken, not)
	}
}

// A script without steps: how a new fleet stands.
func TestP24_2NoSteps(t *testing.T) {
	transcript(t, head, "under way 0\nfaults 0\n")
	transcript(t, "fleet 8 256 16 8 8 64 16 16 512\n", "under way 0\nfaults 0\n")
}

// Each step has its number in each of its lines; one that tells nothing has a line, too.
func TestP24_2StepsAreNumbered(t *testing.T) {
	transcript(t, head+"tick 0\nstep 2\nround\ndeliver 3\ncut 1 0\ninject 1 -\n", "1 -\n2 -\n3 -\n4 refused 30\n5 -\n6 -\nunder way 1\nfaults 0\n")
	transcript(t, head+"crash 2\ncrash 2\nstart 2 0 0\nstart 2 0 0\n", "1 down 2 1\n2 refused 203\n3 up 2 2\n4 refused 204\nunder way 0\nfaults 0\n")
	got := tells(t, head+strings.Repeat("tick 9\n", api.MaxSteps))
	if len(got) != api.MaxSteps+2 {
		t.Fatal(len(got))
	}
	for i, s := range got[:api.MaxSteps] {
		if want := fmt.Sprintf("%d refused 202", i+1); s != want {
			t.Fatalf("%q, not %q", s, want)
		}
	}
}

// A step that tells several events has a line for each, in their order.
func TestP24_2EventsInOrder(t *testing.T) {
	got := tells(t, head+"submit fuel 9; set r0 1p0; emit r0; write r0; halt\nsettle 20\n")
	want := []string{
		"1 submitted 1", "2 granted 1 2 2 1", "2 emitted 2 1 1 2 0 317030", "2 wrote 2 1 1 2 1 317030", "2 stored 1 2 0 317030", "2 admitted 1 2 0 -", "2 admitted 1 2 1 317030",
		"2 ended 2 1 1 2 1 0 3ff0000000000000", "2 recorded 1 2 0 3ff0000000000000",
		"job 1 3 1 2 0 0 0 3ff0000000000000 317030", "artefact 1 2 317030", "under way 0", "faults 0",
	}
	if !slices.Equal(got, want) {
		t.Errorf("%s\nnot\n%s", strings.Join(got, "\n"), strings.Join(want, "\n"))
	}
}

// A coordinator that is down at the end shows no job: just that it is down. The sink's artefacts, and what is under way, are told all the same.
func TestP24_2Down(t *testing.T) {
	ahead := head + "submit fuel 9; set r0 1p0; write r0; halt\nsettle 20\n"
	up := tells(t, ahead)
	down := tells(t, ahead+"crash 0\n")
	want := append(slices.DeleteFunc(slices.Clone(up), func(s string) bool { return strings.HasPrefix(s, "job ") }), "")
	at := slices.IndexFunc(want, func(s string) bool { return strings.HasPrefix(s, "artefact ") })
	want = slices.Insert(want[:len(want)-1], at, "3 down 0 0", "down")
	if !slices.Equal(down, want) || len(up) != len(down)-1 {
		t.Errorf("%q, not %q", down, want)
	}
	transcript(t, head+"crash 0\n", "1 down 0 0\ndown\nunder way 0\nfaults 0\n")
	transcript(t, head+"cut 1 0\nsubmit fuel 1; halt\n", "1 -\n2 down 0 0\ndown\nunder way 0\nfaults 0\n")
	transcript(t, head+"crash 0\nstart 0 0 0\n", "1 down 0 0\n2 up 0 0\nunder way 0\nfaults 0\n")
	transcript(t, head+"crash 2\n", "1 down 2 1\nunder way 0\nfaults 0\n")
}

// Jobs: a line each, in order, wherever they stand: queued, held, recorded, lost.
func TestP24_2Jobs(t *testing.T) {
	first := head + "submit fuel 9; set r0 1p0; emit r0; emit r1; halt\nsettle 20\n" // recorded
	lost := "submit fuel 1000; move r1 r2; jump 0\nsettle 3\ncrash 2\nsettle 41\nstart 2 0 0\nsettle 3\ncrash 2\nsettle 41\nstart 2 0 0\n"
	held := "submit fuel 1000; emit r0; move r1 r2; jump 1\nsettle 8\n"
	queued := "submit fuel 1; fail r1\n"
	got := tells(t, first+lost+held+queued)
	want := []string{"job 1 3 1 2 0 0 0 3ff0000000000000 317030 30", "job 2 4 2 5 0 0 0 0000000000000000", "job 3 2 1 7 2 3 0 0000000000000000 30", "job 4 1 0 0 0 0 0 0000000000000000"}
	var jobs []string
	for _, s := range got {
		if strings.HasPrefix(s, "job ") {
			jobs = append(jobs, s)
		}
	}
	if !slices.Equal(jobs, want) {
		t.Errorf("%q, not %q", jobs, want)
	}
}

// Artefacts: a line each, by their jobs, with all their pieces; jobs that have none have no line.
func TestP24_2Artefacts(t *testing.T) {
	text := "fleet 3 40 2 2 4 64 4 4 160\n" + "submit " + rising(60, "write r0") + "\nsubmit fuel 2; halt\nsubmit fuel 9; set r0 3p0; write r0; write r1; halt\nsubmit fuel 1; halt\n"
	one := tells(t, text+"settle 4\n")
	all := tells(t, text+"settle 90\n")
	count := func(l []string, prefix string) (n int) {
		for _, s := range l {
			if strings.HasPrefix(s, prefix) {
				n++
			}
		}
		return n
	}
	if count(one, "artefact ") != 0 || count(one, "job ") != 4 {
		t.Errorf("%q", one)
	}
	last := all[len(all)-6 : len(all)-2]
	for i, pieces := range []int{16, 0, 2, 0} {
		if words := strings.Fields(last[i]); words[0] != "artefact" || words[1] != fmt.Sprint(i+1) || len(words) != 3+pieces {
			t.Errorf("%q", last[i])
		}
	}
}

// What is under way: how many datagrams, also those that nobody will have.
func TestP24_2UnderWay(t *testing.T) {
	steps := "step 2\ndup 0\ndup 1\ndrop 0\ndeliver 0\ncrash 2\n"
	counts := []int{0, 1, 2, 3, 2, 2, 2}
	for n, want := range counts {
		lines := strings.SplitAfter(steps, "\n")
		got := tells(t, head+strings.Join(lines[:n], ""))
		if s := got[len(got)-2]; s != fmt.Sprintf("under way %d", want) {
			t.Errorf("behind %d: %q, not %d", n, s, want)
		}
	}
}

// Any scripts, of walks that come to all that there is: their transcripts are as the words say.
func TestP24_2Walks(t *testing.T) {
	t.Parallel()
	seen := map[string]int{}
	for seed := range int64(300) {
		c, l := walked(t, newRand(seed), 300)
		text := printed(t, c, l)
		for _, s := range tells(t, text) {
			words := strings.Fields(s)
			if words[0] >= "1" && words[0] <= "9999" {
				words = words[1:]
			}
			name := words[0]
			switch name {
			case "job":
				name += " " + words[2]
			case "shown":
				name += " " + words[3]
			case "under":
				name = fmt.Sprint("under way ", words[2] != "0")
			}
			seen[name]++
		}
	}
	for name, least := range map[string]int{
		"refused": 300, "submitted": 600, "down": 300, "up": 300, "granted": 900, "expired": 200, "lost": 40, "stored": 1000, "recorded": 200, "emitted": 2000, "wrote": 2000, "ended": 400,
		"admitted": 2000, "shown 1": 60, "shown 2": 60, "shown 3": 60, "shown 4": 20, "job 1": 50, "job 2": 30, "job 3": 200, "job 4": 40, "artefact": 300, "under way true": 100, "under way false": 50, "-": 5000,
	} {
		if seen[name] < least {
			t.Errorf("just %d of %q: %v", seen[name], name, seen)
		}
	}
}

// Scripts as long as may be.
func TestP24_2Long(t *testing.T) {
	t.Parallel()
	rnd := newRand(4)
	for range 4 {
		c, l := walked(t, rnd, 3200)
		text, most := "", 0
		for n := min(len(l), api.MaxSteps); most == 0; n-- {
			if s, e := script.Print(c, l[:n]); e == api.OK {
				text, most = s, n
			}
		}
		if got := tells(t, text); most < 1500 || len(got) < most+2 {
			t.Errorf("%d steps, %d lines", most, len(got))
		}
	}
}

// Run's lines of events are Line's.
func TestP24_2LinesAreLine(t *testing.T) {
	got, _, _ := world.Run(head + "drop 1\ncrash 2\n")
	want := "1 " + world.Line(api.Event{Kind: api.EvRefused, Code: api.ErrNetPlace}) + "\n2 " + world.Line(api.Event{Kind: api.EvDown, Who: api.Addr{Node: 2, Life: 1}}) + "\nunder way 0\nfaults 0\n"
	if got != want {
		t.Errorf("%q, not %q", got, want)
	}
}
