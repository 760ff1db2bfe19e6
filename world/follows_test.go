package world_test

import (
	"encoding/hex"
	"fmt"
	"slices"
	"strconv"
	"strings"
	"testing"

	"gaffer/api"
	"gaffer/audit"
	"gaffer/cluster"
	"gaffer/script"
	"gaffer/world"
)

// The transcript hangs on the text alone, however often, and whoever else runs; its last line is that there is no fault.
func TestP24_3TextAlone(t *testing.T) {
	t.Parallel()
	texts, want := []string{head, ""}, []string{"under way 0\nfaults 0\n", ""}
	for seed := range int64(40) {
		c, l := walked(t, newRand(100+seed), 200)
		text := printed(t, c, l)
		got := strings.Join(tells(t, text), "\n") + "\n"
		if !strings.HasSuffix(got, "\nfaults 0\n") {
			t.Fatalf("%q", got[max(0, len(got)-80):])
		}
		texts, want = append(texts, text), append(want, got)
	}
	done := make(chan bool)
	for n := range 8 {
		go func() {
			same := true
			for i := range texts {
				at := (i*(n+1) + n) % len(texts)
				got, _, _ := world.Run(strings.Clone(texts[at]))
				same = same && got == want[at]
			}
			done <- same
		}()
	}
	for range 8 {
		if !<-done {
			t.Error("another transcript")
		}
	}
}

// The steps of a beginning of a script are told as the beginning of its transcript; a text of one line more has at least one line more.
func TestP24_3Beginnings(t *testing.T) {
	t.Parallel()
	for seed := range int64(8) {
		c, l := walked(t, newRand(200+seed), 60)
		whole := tells(t, printed(t, c, l))
		ahead := 0
		for n := range len(l) + 1 {
			got := tells(t, printed(t, c, l[:n]))
			told := 0
			for told < len(got) && got[told][0] <= '9' {
				told++
			}
			if told > len(whole) || !slices.Equal(got[:told], whole[:told]) || n > 0 && (told <= ahead || !strings.HasPrefix(got[told-1], fmt.Sprint(n, " "))) {
				t.Fatalf("behind %d of %d: %q", n, len(l), got)
			}
			ahead = told
		}
	}
}

// readBack is the event of a line: the words are unlike for unlike events.
func readBack(t *testing.T, s string) api.Event {
	t.Helper()
	words := strings.Split(s, " ")
	next := func() string {
		w := words[0]
		words = words[1:]
		return w
	}
	number := func() int {
		n, err := strconv.Atoi(next())
		if err != nil {
			t.Fatal(s, err)
		}
		return n
	}
	text := func() string {
		w := next()
		if w == "-" {
			return ""
		}
		b, err := hex.DecodeString(w)
		if err != nil || len(b) == 0 {
			t.Fatal(s, err)
		}
		return string(b)
	}
	var e api.Event
	name := next()
	for e.Kind = 1; namesOf(e.Kind)[0] != name; e.Kind++ {
	}
	for _, field := range namesOf(e.Kind)[1:] {
		switch field {
		case "Code":
			e.Code = api.Errno(number())
		case "Job":
			e.Job = number()
		case "Badge":
			e.Badge = number()
		case "Index":
			e.Index = number()
		case "Count":
			e.Count = number()
		case "Status":
			e.Status = number()
		case "Who":
			e.Who = api.Addr{Node: number(), Life: number()}
		case "Result":
			e.Result.Code = number()
			bits, err := strconv.ParseUint(next(), 16, 64)
			if err != nil {
				t.Fatal(s, err)
			}
			e.Result.Bits = bits
		case "Text":
			e.Text = text()
		case "Texts":
			for len(words) > 0 {
				e.Texts = append(e.Texts, text())
			}
		}
	}
	if len(words) > 0 {
		t.Fatalf("%q: %q is left", s, words)
	}
	return e
}

func sameEvent(a, b api.Event) bool {
	same := slices.Equal(a.Texts, b.Texts) && a.Text == b.Text && a.Who == b.Who && a.Result == b.Result
	return same && a.Kind == b.Kind && a.Code == b.Code && a.Job == b.Job && a.Badge == b.Badge && a.Index == b.Index && a.Count == b.Count && a.Status == b.Status
}

// What the lines of the steps say is what the fleet told, all of it, and in its order; an audit of what they say finds nothing.
func TestP24_2ReadBack(t *testing.T) {
	t.Parallel()
	for seed := range int64(60) {
		c, l := walked(t, newRand(300+seed), 200)
		all, _ := cluster.Run(c, l)
		var history, read []api.Event
		for _, told := range all {
			history = append(history, told...)
		}
		number, steps := 0, map[int]int{}
		for _, s := range tells(t, printed(t, c, l)) {
			first, rest, _ := strings.Cut(s, " ")
			n, err := strconv.Atoi(first)
			if err != nil {
				break
			}
			if n != number && n != number+1 {
				t.Fatalf("%q behind %d", s, number)
			}
			number = n
			if rest != "-" {
				steps[n]++
				read = append(read, readBack(t, rest))
			}
		}
		if number != len(l) || !slices.EqualFunc(read, history, sameEvent) {
			t.Fatalf("%d steps, not %d; %d events, not %d", number, len(l), len(read), len(history))
		}
		for i, told := range all {
			if steps[i+1] != len(told) {
				t.Fatalf("the step %d: %d events, not %d", i+1, steps[i+1], len(told))
			}
		}
		if f, e := audit.All(read); len(f) > 0 || e != api.OK {
			t.Fatalf("%+v, %d", f, e)
		}
	}
}

// Whatever a script is, a fault is never told: of small worlds, each script of few steps.
func TestP24_3EachShortScript(t *testing.T) {
	t.Parallel()
	steps := []string{"submit fuel 1; halt\n", "settle 4\n", "step 2\n", "deliver 0\n", "dup 0\n", "crash 0\n", "cut 1 128\n", "start 0 0 0\n", "tick 0\n", "crash 2\n", "start 2 0 0\n"}
	short := "fleet 1 1 1 1 1 1 1 1 160\n"
	texts := []string{short}
	for depth := range 5 {
		var next []string
		for _, text := range texts {
			got, at, e := world.Run(text)
			if at != 0 || e != api.OK || !strings.HasSuffix(got, "faults 0\n") {
				t.Fatalf("%q: %q, %d at %d", text, got, e, at)
			}
			for _, s := range steps {
				next = append(next, text+s)
			}
		}
		texts = next
		if depth == 2 {
			for _, text := range texts {
				runs(t, text)
			}
		}
	}
}

// A fleet that is asked for as much as may be.
func TestP24_3Greatest(t *testing.T) {
	t.Parallel()
	text := "fleet 8 256 16 8 8 64 16 16 512\n" + strings.Repeat("submit "+rising(1024, "move r2 r2", "emit r0", "write r0")+"\n", 9) + "settle 256\n"
	text += strings.Repeat("crash 0\nstart 0 0 0\ncrash 3\nstart 3 0 0\nsettle 2\n", 120)
	got := tells(t, text)
	if got[len(got)-1] != "faults 0" || !strings.HasPrefix(got[8], "9 refused ") || len(got) < 2000 {
		t.Errorf("%d lines: %q, %q", len(got), got[8], got[len(got)-1])
	}
	if _, _, e, _ := script.Parse(text); e != api.OK {
		t.Error(e)
	}
}
