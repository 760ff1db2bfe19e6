package script_test

import (
	"slices"
	"strings"
	"testing"

	"gaffer/api"
	"gaffer/script"
)

// thereAndBack holds that what Print takes is what Parse finds in its text; the text, none if Print takes it not.
func thereAndBack(t *testing.T, c api.Config, l []api.Step) string {
	t.Helper()
	text, e := script.Print(c, l)
	if e != api.OK {
		return ""
	}
	d, m, e, line := script.Parse(text)
	if d != c || !slices.Equal(m, l) || e != api.OK || line != 0 {
		t.Fatalf("%q: %+v, %d steps, %d at %d, not %+v, %d steps", short(text), d, len(m), e, line, c, len(l))
	}
	return text
}

// backAndThere holds that what Parse takes Print tells; whether it takes it.
func backAndThere(t *testing.T, text string) bool {
	t.Helper()
	c, l, e, _ := script.Parse(text)
	if e != api.OK {
		return false
	}
	if again, e := script.Print(c, l); again != text || e != api.OK {
		t.Fatalf("%q: %q, %d", short(text), short(again), e)
	}
	return true
}

// lineByLine holds that a script has a line more than steps, each of which is a script of its step.
func lineByLine(t *testing.T, text string) {
	t.Helper()
	c, l, e, _ := script.Parse(text)
	if e != api.OK {
		t.Fatal(e)
	}
	lines := strings.SplitAfter(text, "\n")
	if len(lines) != len(l)+2 || lines[len(l)+1] != "" {
		t.Fatalf("%q: %d steps", short(text), len(l))
	}
	for i, line := range lines[1 : len(l)+1] {
		d, m, e, at := script.Parse(lines[0] + line)
		if d != c || len(m) != 1 || m[0] != l[i] || e != api.OK || at != 0 {
			t.Fatalf("%q: %+v, %v, %d at %d, not %v", line, d, m, e, at, l[i])
		}
	}
	if d, m, e, _ := script.Parse(lines[0]); d != c || len(m) != 0 || e != api.OK {
		t.Fatalf("%q: %+v, %v, %d", lines[0], d, m, e)
	}
}

func TestP23_3ThereAndBack(t *testing.T) {
	t.Parallel()
	rnd := newRand(6)
	taken := 0
	for range 1500 {
		l := anySteps(rnd, rnd.Intn(60), []int{4, 40, 600, 2200}[rnd.Intn(4)])
		text := thereAndBack(t, anyConfig(rnd), l)
		if text == "" {
			continue
		}
		taken++
		lineByLine(t, text)
	}
	if taken < 800 {
		t.Error(taken)
	}
}

// At the ends: so many steps, lines and texts as may be.
func TestP23_3TheGreatest(t *testing.T) {
	for _, l := range [][]api.Step{rounds(2000), full(t, 32768), full(t, 32767), {submits(strings.Repeat("\xff", 2045))}, {injects(12, strings.Repeat("a", 2043))}, nil} {
		text := thereAndBack(t, config(), l)
		if text == "" {
			t.Fatal(len(l))
		}
		lineByLine(t, text)
	}
}

// Each text of one or two bytes is there and back, and so is each of few values.
func TestP23_3EachShortText(t *testing.T) {
	for i := range 256 {
		for j := range 256 {
			b := string([]byte{byte(i), byte(j)})
			if thereAndBack(t, config(), []api.Step{submits(b), injects(j, b), injects(-i, b[:1]), submits(b[1:])}) == "" {
				t.Fatal(i, j)
			}
		}
	}
	parts := []string{"\x00", "\x01", "\x09", "\x18", "\x15", "\xc3", "\xa9", "\xff", "-", "0", " ", "\n"}
	var all func(text string, left int)
	all = func(text string, left int) {
		if thereAndBack(t, config(), []api.Step{submits(text)}) == "" {
			t.Fatalf("%q", text)
		}
		for i := 0; left > 0 && i < len(parts); i++ {
			all(text+parts[i], left-1)
		}
	}
	all("", 4)
}

func TestP23_3BackAndThere(t *testing.T) {
	t.Parallel()
	rnd := newRand(7)
	taken := 0
	bytes := []byte("0019afA-; \nrouindtckfelsh")
	for range 60000 {
		text, e := script.Print(anyConfig(rnd), anySteps(rnd, 1+rnd.Intn(6), 6))
		if e != api.OK {
			t.Fatal(e)
		}
		b := []byte(text)
		for range 1 + rnd.Intn(2) {
			at, c := rnd.Intn(len(b)), bytes[rnd.Intn(len(bytes))]
			switch rnd.Intn(3) {
			case 0:
				b[at] = c
			case 1:
				b = slices.Insert(b, at, c)
			case 2:
				b = slices.Delete(b, at, at+1)
			}
		}
		if backAndThere(t, string(b)) {
			taken++
		}
	}
	if taken < 3000 {
		t.Error(taken)
	}
}
