package script_test

import (
	"fmt"
	"math"
	"slices"
	"strings"
	"testing"

	"gaffer/api"
	"gaffer/script"
)

// someNumbers: words that are numbers, and what they are.
func someNumbers() map[string]int {
	return map[string]int{
		"0": 0, "1": 1, "-1": -1, "9": 9, "10": 10, "-10": -10, "100": 100, "1099511627776": 1 << 40,
		"9223372036854775807": math.MaxInt, "-9223372036854775808": math.MinInt, "-9223372036854775807": math.MinInt + 1,
	}
}

// noNumbers: words that are none.
func noNumbers() []string {
	return []string{
		"", "-", "+1", "+0", "-0", "00", "01", "-01", "--1", "1-", "0x1", "1_0", "1e2", "1.0", ".", "a", "٣", "１", "1\x00", "\x001", "1\r", "\t1", "0-",
		"9223372036854775808", "-9223372036854775809", "18446744073709551616", "18446744073709551617", "99999999999999999999", "-99999999999999999999999", "00000000000000000000001",
	}
}

func TestP23_2Numbers(t *testing.T) {
	for _, line := range []string{"tick %", "step %", "deliver %", "drop %", "dup %", "inject % 00", "crash %", "start % 0 0", "start 0 % 0", "start 0 0 %", "cut % 0", "cut 0 %", "settle %"} {
		for word, n := range someNumbers() {
			_, l, e, _ := parses(t, head+strings.ReplaceAll(line, "%", word)+"\n")
			if e != api.OK || len(l) != 1 || l[0].A+l[0].K+l[0].X != n {
				t.Errorf("%s, %s: %v, %d", line, word, l, e)
			}
		}
		for _, word := range noNumbers() {
			refused(t, head+strings.ReplaceAll(line, "%", word)+"\n", api.ErrScriptStep, 2)
		}
	}
	for at := range 9 {
		for _, word := range append(noNumbers(), "0", "-1", "513", "9223372036854775807", "-9223372036854775808") {
			words := strings.Fields(head)
			words[1+at] = word
			refused(t, strings.Join(words, " ")+"\n", api.ErrScriptHead, 1)
		}
	}
}

func TestP23_2Bytes(t *testing.T) {
	for _, line := range []string{"bytes ", "inject 1 "} {
		for i := range 256 {
			_, l, e, _ := parses(t, head+line+fmt.Sprintf("%02x\n", i))
			if e != api.OK || len(l) != 1 || l[0].Text != string([]byte{byte(i)}) {
				t.Errorf("%s, %d: %v, %d", line, i, l, e)
			}
			for j := range 256 {
				parses(t, head+line+string([]byte{byte(i), byte(j), '\n'}))
			}
			parses(t, head+line+string([]byte{byte(i), '\n'}))
			parses(t, head+line+"00"+string([]byte{byte(i), '\n'}))
			parses(t, head+line+"00f"+string([]byte{byte(i), '\n'}))
		}
		for _, word := range []string{"", "0", "000", "0A", "A0", "0g", "g0", "--", "-0", "-00", "00-", "0 0", "0x00", " 00", "00 ", "0١", "-\r", "00 00"} {
			refused(t, head+line+word+"\n", api.ErrScriptStep, 2)
		}
	}
}

// Words of a line: each, one too few, one too many, of another letter, with other blanks.
func TestP23_2Words(t *testing.T) {
	lines := []string{"bytes 00", "tick 1", "step 1", "deliver 1", "drop 1", "dup 1", "inject 1 00", "crash 1", "start 1 2 3", "cut 1 2", "round", "settle 1"}
	for _, line := range lines {
		if _, _, e, _ := parses(t, head+line+"\n"); e != api.OK {
			t.Errorf("%s: %d", line, e)
		}
		words := strings.Split(line, " ")
		for _, wrong := range []string{
			line + " 0", line + " ", " " + line, line + " -", line + "\r", line + "\t", strings.ToUpper(line), strings.ToUpper(line[:1]) + line[1:], line[1:], "a" + line, "\ufeff" + line,
			words[0] + "s" + line[len(words[0]):], line + ";", line + "; " + line, line + " " + line, words[0] + " ", words[0] + " 0 0 0 0",
		} {
			refused(t, head+wrong+"\n", api.ErrScriptStep, 2)
		}
		if len(words) > 1 {
			refused(t, head+strings.Join(words[:len(words)-1], " ")+"\n", api.ErrScriptStep, 2)
			refused(t, head+strings.ReplaceAll(line, " ", "  ")+"\n", api.ErrScriptStep, 2)
			refused(t, head+strings.ReplaceAll(line, " ", "\t")+"\n", api.ErrScriptStep, 2)
			refused(t, head+strings.Join(words[1:], " ")+"\n", api.ErrScriptStep, 2)
		}
		refused(t, head+line, api.ErrScriptStep, 2)
		refused(t, head+line+"\n\n", api.ErrScriptStep, 3)
		refused(t, head+"\n"+line+"\n", api.ErrScriptStep, 2)
		refused(t, head+line+"\n"+line, api.ErrScriptStep, 3)
		refused(t, line+"\n", api.ErrScriptHead, 1)
	}
	for _, word := range []string{"fleet", "submitted", "Submit", "nop", "bytes", "submit", "-", "0", "halt", "fuel 9", "rounds", "roun", "\x00", head[:len(head)-1], "start 1 2", "cut 1 2 3", "inject 1", "inject 00", "inject 00 1", "tick -", "bytes 1 00", "round 0"} {
		refused(t, head+word+"\n", api.ErrScriptStep, 2)
	}
}

func TestP23_2Head(t *testing.T) {
	line := head[:len(head)-1]
	for _, wrong := range []string{
		"", "\n", "\n" + head, line + " ", line + " \n", line + " 1\n", " " + head, "Fleet" + line[5:] + "\n", "flee" + line[5:] + "\n", "fleets" + line[5:] + "\n", "fleet\n", "fleet \n", line[6:] + "\n",
		"fleet 1 40 2 2 2 8 4 4\n", "fleet  1 40 2 2 2 8 4 4 160\n", "fleet\t1 40 2 2 2 8 4 4 160\n", "fleet 1 40 2 2 2 8 4 4 159\n", "fleet 160 4 4 8 2 2 2 40 1\n", "\ufeff" + head, line + "\r\n", "round\n", "round\n" + head,
		"fleet 1 40 2 2 2 8 4 4 1 60\n", "fleet 01 40 2 2 2 8 4 4 160\n", "fleet 1 40 2 2 2 8 4 4 160;\n", "fleet 1 40 2 2 2 8 4 4 -160\n", "fleet" + strings.Repeat(" 1", 1000) + "\n",
	} {
		refused(t, wrong, api.ErrScriptHead, 1)
		refused(t, wrong+"\nround\n", api.ErrScriptHead, 1)
	}
	refused(t, line, api.ErrScriptHead, 1)
	for i := range 9 {
		c := config()
		n := numbersOf(&c)[i]
		for value, want := range map[int]api.Errno{n.least - 1: api.ErrScriptHead, n.least: api.OK, n.most: api.OK, n.most + 1: api.ErrScriptHead} {
			*n.at = value
			d, l, e, _ := parses(t, modelHead(c)+"\n")
			if e != want || len(l) != 0 || want == api.OK && d != c {
				t.Errorf("%s: %+v, %d", modelHead(c), d, e)
			}
		}
	}
}

func TestP23_2Programs(t *testing.T) {
	for _, x := range []struct{ line, bytes string }{
		{"fuel 9; halt", "\x09\x01\x18"},
		{"fuel 1024; halt; halt", "\x80\x08\x02\x18\x18"},
		{"fuel 9; set r0 3p-1; emit r0; jump 3", "\x09\x03\x01\x00\x3f\xf8\x00\x00\x00\x00\x00\x00\x15\x00\x0e\x03"},
		{"fuel 1" + strings.Repeat("; ret", 64), "\x01\x40" + strings.Repeat("\x12", 64)},
	} {
		if _, l, e, _ := parses(t, head+"submit "+x.line+"\n"); e != api.OK || len(l) != 1 || l[0] != submits(x.bytes) {
			t.Errorf("%s: %v, %d", x.line, l, e)
		}
		refused(t, head+fmt.Sprintf("bytes %x\n", x.bytes), api.ErrScriptStep, 2)
		if _, l, e, _ := parses(t, head+fmt.Sprintf("bytes %x00\ninject 0 %x\n", x.bytes, x.bytes)); e != api.OK || len(l) != 2 {
			t.Errorf("%s: %v, %d", x.line, l, e)
		}
	}
	for _, wrong := range []string{
		"", " ", "fuel 9", "fuel 9;", "fuel 9; ", "fuel 9;halt", "fuel 9 ; halt", "fuel 9;  halt", "fuel 9; halt;", "fuel 9; halt; ", " fuel 9; halt", "; fuel 9; halt", "fuel 9; ; halt", "fuel 9;; halt",
		"fuel 0; halt", "fuel 1025; halt", "fuel 09; halt", "fuel 9; jump 2", "fuel 9; emit r8", "fuel 9; set r0 2p0", "fuel 9; stop", "halt; fuel 9", "fuel 1" + strings.Repeat("; ret", 65), "fuel 9; halt\r", "fuel 9,halt", "-", "090118",
		"fuel 9; halt; \x00", "fuel 9\x00; halt", "FUEL 9; halt",
	} {
		refused(t, head+"submit "+wrong+"\n", api.ErrScriptStep, 2)
		refused(t, head+"bytes "+wrong+"a\n", api.ErrScriptStep, 2)
	}
	refused(t, head+"submit fuel 9\nhalt\n", api.ErrScriptStep, 2)
	refused(t, head+"submitfuel 9; halt\n", api.ErrScriptStep, 2)
	refused(t, head+"submit\tfuel 9; halt\n", api.ErrScriptStep, 2)
	refused(t, head+"submit fuel 9; halt", api.ErrScriptStep, 2)
}

// Of several wrong lines the first one is told; of one with several faults the first of the promise.
func TestP23_2FirstLine(t *testing.T) {
	a := strings.Repeat("a", 4097)
	for _, x := range []struct {
		text string
		e    api.Errno
		line int
	}{
		{a, api.ErrScriptLong, 1},
		{a + "\n", api.ErrScriptLong, 1},
		{a + "\nround 1\n", api.ErrScriptLong, 1},
		{a[1:], api.ErrScriptHead, 1},
		{a[1:] + "\n" + a + "\n", api.ErrScriptHead, 1},
		{head + a, api.ErrScriptLong, 2},
		{head + a[1:], api.ErrScriptStep, 2},
		{head + a[1:] + "\n" + a, api.ErrScriptStep, 2},
		{head + "round\n" + a + "\nround 1\n", api.ErrScriptLong, 3},
		{head + "round\nround 1\n" + a, api.ErrScriptStep, 3},
		{head + "round\nround\nround 1\nround 2\n", api.ErrScriptStep, 4},
		{"round 1\nround 2\n", api.ErrScriptHead, 1},
		{"round 1\n" + a + "\n", api.ErrScriptHead, 1},
		{strings.Repeat("a", 32768), api.ErrScriptLong, 1},
		{strings.Repeat("a", 32769), api.ErrScriptLong, 0},
		{"\n" + strings.Repeat("a", 32767), api.ErrScriptHead, 1},
		{"\n" + strings.Repeat("a", 32768), api.ErrScriptLong, 0},
		{strings.Repeat("\n", 32768), api.ErrScriptHead, 1},
		{strings.Repeat("\n", 32769), api.ErrScriptLong, 0},
		{head + strings.Repeat("x\n", 10000), api.ErrScriptStep, 2},
	} {
		refused(t, x.text, x.e, x.line)
	}
}

func TestP23_2HowManySteps(t *testing.T) {
	for _, behind := range []string{"", "round", "round\n", "round 1\n", "\n", "x", strings.Repeat("a", 4097), strings.Repeat("round\n", 2000)} {
		want, line := api.ErrScriptLong, 2002
		if behind == "" {
			want, line = api.OK, 0
		}
		_, l, e, at := parses(t, head+strings.Repeat("round\n", 2000)+behind)
		if e != want || at != line || want == api.OK && len(l) != 2000 {
			t.Errorf("%q behind 2000 steps: %d at %d, %d steps", short(behind), e, at, len(l))
		}
		parses(t, head+strings.Repeat("round\n", 1999)+behind)
	}
	if _, l, e, _ := parses(t, head+strings.Repeat("round\n", 1999)+"cut 1 1\n"); e != api.OK || l[1999] != (api.Step{Kind: api.StCut, K: 1, X: 1}) {
		t.Error(e)
	}
	refused(t, head+strings.Repeat("round\n", 1999)+"cut 1\n", api.ErrScriptStep, 2001)
	refused(t, head+strings.Repeat("round\n", 1998)+"cut 1\n", api.ErrScriptStep, 2000)
	refused(t, head+"x\n"+strings.Repeat("round\n", 2001), api.ErrScriptStep, 2)
}

func TestP23_2LongLines(t *testing.T) {
	for _, x := range []struct {
		digits int
		begin  string
		e      api.Errno
	}{
		{4090, "bytes ", api.OK}, {4092, "bytes ", api.ErrScriptLong}, {4091, "bytes ", api.ErrScriptLong}, {4089, "bytes ", api.ErrScriptStep},
		{4086, "inject 12 ", api.OK}, {4086, "inject -12 ", api.ErrScriptLong}, {4086, "inject 1 ", api.OK}, {4087, "inject 1 ", api.ErrScriptStep}, {4088, "inject 1 ", api.ErrScriptLong},
		{4096, "", api.ErrScriptStep}, {4097, "", api.ErrScriptLong}, {8192, "", api.ErrScriptLong},
	} {
		line := x.begin + strings.Repeat("a", x.digits)
		if _, _, e, at := parses(t, head+"round\n"+line+"\nround\n"); e != x.e || e != api.OK && at != 3 {
			t.Errorf("%s and %d digits: %d at %d", x.begin, x.digits, e, at)
		}
		parses(t, head+line)
	}
}

func TestP23_2LongTexts(t *testing.T) {
	for size := 32760; size < 32780; size++ {
		lines := []string{head[:len(head)-1]}
		for _, s := range full(t, size) {
			lines = append(lines, modelLine(s))
		}
		text := strings.Join(lines, "\n") + "\n"
		if _, l, e, at := parses(t, text); size <= 32768 && (e != api.OK || len(l) != len(lines)-1) || size > 32768 && (e != api.ErrScriptLong || at != 0) {
			t.Errorf("%d bytes: %d at %d", size, e, at)
		}
	}
}

// All that few words make, with few things between them.
func TestP23_2ShortLines(t *testing.T) {
	words := []string{"", "tick", "inject", "start", "cut", "round", "bytes", "submit", "0", "-1", "-", "00", "fuel 9; halt"}
	taken := 0
	var all func(line string, left int)
	all = func(line string, left int) {
		for _, end := range []string{"\n", "", " \n"} {
			if _, _, e, _ := parses(t, head+line+end); e == api.OK {
				taken++
			}
		}
		for i := 0; left > 0 && i < len(words); i++ {
			all(line+" "+words[i], left-1)
			all(line+words[i], left-1)
		}
	}
	for _, word := range words {
		all(word, 3)
	}
	if taken < 100 {
		t.Error(taken)
	}
}

// A script with a byte put in, taken out, or made another one.
func TestP23_2OneByteAway(t *testing.T) {
	t.Parallel()
	text := head + "submit fuel 9; set r0 1p0; halt\nbytes 0901\ntick 0\ninject 2 00ff\nstart 1 2 -3\ncut 3 -1\nround\nbytes -\nsettle 20\n"
	if _, _, e, _ := parses(t, text); e != api.OK {
		t.Fatal(e)
	}
	taken := 0
	for i := range text {
		parses(t, text[:i])
		parses(t, text[i:])
		parses(t, text[:i]+text[i+1:])
		for c := range 256 {
			one := string([]byte{byte(c)})
			for _, near := range []string{text[:i] + one + text[i+1:], text[:i] + one + text[i:]} {
				if _, _, e, _ := parses(t, near); e == api.OK {
					taken++
				}
			}
		}
	}
	if taken < 500 {
		t.Error(taken)
	}
}

// Scripts of any steps, with a few lines and bytes about them changed.
func TestP23_2AnyTexts(t *testing.T) {
	t.Parallel()
	rnd := newRand(4)
	took := map[api.Errno]int{}
	for range 20000 {
		lines := []string{modelHead(anyConfig(rnd)) + "\n"}
		for _, s := range anySteps(rnd, rnd.Intn(12), 12) {
			lines = append(lines, modelLine(s)+"\n")
		}
		for range rnd.Intn(3) {
			i, j := rnd.Intn(len(lines)), rnd.Intn(len(lines))
			switch rnd.Intn(6) {
			case 0:
				lines[i], lines[j] = lines[j], lines[i]
			case 1:
				lines[i] = strings.ReplaceAll(lines[i], " ", []string{"  ", "", "\n"}[rnd.Intn(3)])
			case 2:
				lines[i] = strings.TrimSuffix(lines[i], "\n")
			case 3:
				lines[i] = strings.ToUpper(lines[i])
			case 4:
				lines[i] += anyText(rnd, 3)
			case 5:
				lines = slices.Insert(lines, i, lines[j])
			}
		}
		_, _, e, _ := parses(t, strings.Join(lines, ""))
		took[e]++
	}
	for _, e := range []api.Errno{api.OK, api.ErrScriptHead, api.ErrScriptStep} {
		if took[e] < 2000 {
			t.Errorf("%d: just %d", e, took[e])
		}
	}
}

// Bytes of any kind.
func TestP23_2AnyBytes(t *testing.T) {
	t.Parallel()
	rnd := newRand(5)
	for range 20000 {
		parses(t, anyText(rnd, 40))
		parses(t, head+anyText(rnd, 40))
		parses(t, head+"round\n"+anyText(rnd, 3)+"\n")
	}
}

// An error goes with no config and no steps, what is taken with no line.
func TestP23_2ZeroBesideErrors(t *testing.T) {
	for _, text := range []string{head + "round\nround 1\n", head + "round", "fleet 1 40 2 2 2 8 4 4 159\n", head + strings.Repeat("round\n", 2001), strings.Repeat("a", 32769)} {
		if c, l, e, _ := script.Parse(text); c != (api.Config{}) || len(l) != 0 || e == api.OK {
			t.Errorf("%q: %v, %v, %d", short(text), c, l, e)
		}
	}
}
