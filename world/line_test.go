package world_test

import (
	"math"
	"slices"
	"strings"
	"testing"

	"gaffer/api"
	"gaffer/world"
)

// full is an event with no field that is zero, each of another number.
func full(kind int) api.Event {
	return api.Event{
		Kind: kind, Code: 205, Who: api.Addr{Node: 2, Life: 3}, Job: 4, Badge: 15, Index: 6, Count: 7, Status: 8,
		Result: api.Result{Code: 9, Bits: 0x3ff00000000000ab}, Text: "1p0", Texts: []string{"a", "", "\x00\xff"},
	}
}

// The words of each kind.
func TestP24_1Kinds(t *testing.T) {
	for kind, want := range []string{
		api.EvRefused:   "refused 205",
		api.EvSubmitted: "submitted 4",
		api.EvDown:      "down 2 3",
		api.EvUp:        "up 2 3",
		api.EvGranted:   "granted 4 15 2 3",
		api.EvExpired:   "expired 4 15",
		api.EvLost:      "lost 4 15",
		api.EvStored:    "stored 4 15 6 61 - 00ff",
		api.EvRecorded:  "recorded 4 15 9 3ff00000000000ab",
		api.EvEmitted:   "emitted 2 3 4 15 6 317030",
		api.EvWrote:     "wrote 2 3 4 15 6 317030",
		api.EvEnded:     "ended 2 3 4 15 7 9 3ff00000000000ab",
		api.EvAdmitted:  "admitted 4 15 6 317030",
		api.EvShown:     "shown 4 15 8 9 3ff00000000000ab 61 - 00ff",
	} {
		line(t, full(kind), want)
	}
}

// Of an event that has its kind alone: noughts, no bytes, no texts.
func TestP24_1Bare(t *testing.T) {
	for kind, want := range []string{
		api.EvRefused:   "refused 0",
		api.EvSubmitted: "submitted 0",
		api.EvDown:      "down 0 0",
		api.EvUp:        "up 0 0",
		api.EvGranted:   "granted 0 0 0 0",
		api.EvExpired:   "expired 0 0",
		api.EvLost:      "lost 0 0",
		api.EvStored:    "stored 0 0 0",
		api.EvRecorded:  "recorded 0 0 0 0000000000000000",
		api.EvEmitted:   "emitted 0 0 0 0 0 -",
		api.EvWrote:     "wrote 0 0 0 0 0 -",
		api.EvEnded:     "ended 0 0 0 0 0 0 0000000000000000",
		api.EvAdmitted:  "admitted 0 0 0 -",
		api.EvShown:     "shown 0 0 0 0 0000000000000000",
	} {
		line(t, api.Event{Kind: kind}, want)
	}
}

// An event that is of no kind has no words, whatever its fields are.
func TestP24_1NoKind(t *testing.T) {
	for _, kind := range []int{0, -1, 15, 16, 17, 256, 256 + 1, 1 << 32, 1<<32 + 1, 1 << 40, math.MaxInt, math.MinInt, math.MinInt + 1} {
		line(t, full(kind), "")
		line(t, api.Event{Kind: kind}, "")
	}
	for kind := -300; kind < 300; kind++ {
		if got := world.Line(full(kind)); (got == "") != (kind < 1 || kind > 14) {
			t.Errorf("%d: %q", kind, got)
		}
	}
}

// change is a field that is told by its name, with another value.
func change(e api.Event, name string) api.Event {
	switch name {
	case "Code":
		e.Code++
	case "Job":
		e.Job++
	case "Badge":
		e.Badge++
	case "Index":
		e.Index++
	case "Count":
		e.Count++
	case "Status":
		e.Status++
	case "Who":
		e.Who.Node++
	case "Result":
		e.Result.Code++
	case "Text":
		e.Text += "x"
	case "Texts":
		e.Texts = append(slices.Clone(e.Texts), "x")
	}
	return e
}

// What a kind names is told, and nothing else is looked at.
func TestP24_1NamedFieldsAlone(t *testing.T) {
	for kind := api.EvRefused; kind <= api.EvShown; kind++ {
		for _, e := range []api.Event{full(kind), {Kind: kind}} {
			for _, name := range strings.Fields(allFields) {
				named := slices.Contains(namesOf(kind)[1:], name)
				if ahead, behind := lines(t, e), lines(t, change(e, name)); (ahead != behind) != named {
					t.Errorf("%s: %q, %q", name, ahead, behind)
				}
			}
		}
	}
}

// Numbers: all have one form, at their ends too.
func TestP24_1Numbers(t *testing.T) {
	for n, want := range map[int]string{
		0: "0", 1: "1", -1: "-1", 9: "9", 10: "10", -10: "-10", 100: "100", 1 << 40: "1099511627776",
		math.MaxInt: "9223372036854775807", math.MinInt: "-9223372036854775808", math.MinInt + 1: "-9223372036854775807",
	} {
		line(t, api.Event{Kind: api.EvRefused, Code: api.Errno(n)}, "refused "+want)
		line(t, api.Event{Kind: api.EvSubmitted, Job: n}, "submitted "+want)
		line(t, api.Event{Kind: api.EvUp, Who: api.Addr{Node: n, Life: 5}}, "up "+want+" 5")
		line(t, api.Event{Kind: api.EvDown, Who: api.Addr{Node: 5, Life: n}}, "down 5 "+want)
		line(t, api.Event{Kind: api.EvLost, Job: 5, Badge: n}, "lost 5 "+want)
		line(t, api.Event{Kind: api.EvStored, Index: n}, "stored 0 0 "+want)
		line(t, api.Event{Kind: api.EvEnded, Count: n}, "ended 0 0 0 0 "+want+" 0 0000000000000000")
		line(t, api.Event{Kind: api.EvShown, Status: n}, "shown 0 0 "+want+" 0 0000000000000000")
		line(t, api.Event{Kind: api.EvRecorded, Result: api.Result{Code: n}}, "recorded 0 0 "+want+" 0000000000000000")
	}
}

// The bits of a result: sixteen digits, whatever they are.
func TestP24_1Bits(t *testing.T) {
	for bits, want := range map[uint64]string{
		0: "0000000000000000", 1: "0000000000000001", 10: "000000000000000a", 15: "000000000000000f", 16: "0000000000000010", 255: "00000000000000ff",
		0x123456789abcdef: "0123456789abcdef", 0xfedcba9876543210: "fedcba9876543210", 1 << 63: "8000000000000000", math.MaxUint64: "ffffffffffffffff",
		math.Float64bits(1): "3ff0000000000000", math.Float64bits(math.NaN()): "7ff8000000000001", math.Float64bits(math.Inf(-1)): "fff0000000000000",
	} {
		line(t, api.Event{Kind: api.EvRecorded, Job: 1, Badge: 2, Result: api.Result{Code: 3, Bits: bits}}, "recorded 1 2 3 "+want)
		line(t, api.Event{Kind: api.EvShown, Result: api.Result{Bits: bits}, Texts: []string{"z"}}, "shown 0 0 0 0 "+want+" 7a")
		line(t, api.Event{Kind: api.EvEnded, Result: api.Result{Code: -1, Bits: bits}}, "ended 0 0 0 0 0 -1 "+want)
	}
	for at := range 64 {
		lines(t, api.Event{Kind: api.EvRecorded, Result: api.Result{Bits: 1 << at}})
		lines(t, api.Event{Kind: api.EvRecorded, Result: api.Result{Bits: 1<<at - 1}})
	}
}

// Bytes: two digits each, also those within a character, and those that are none.
func TestP24_1Bytes(t *testing.T) {
	for text, want := range map[string]string{
		"": "-", "-": "2d", "\x00": "00", "\x0f": "0f", "\xf0": "f0", "\xff": "ff", "\n": "0a", " ": "20", "a b": "612062", "é": "c3a9", "中": "e4b8ad", "😀": "f09f9880",
		"\ufffd": "efbfbd", "\xc3": "c3", "\xe4\xb8": "e4b8", "\xf0\x9f\x98": "f09f98", "\xa9\xc3": "a9c3", "1p0": "317030", "é\xff中": "c3a9ffe4b8ad",
	} {
		line(t, api.Event{Kind: api.EvAdmitted, Job: 1, Badge: 2, Index: 3, Text: text}, "admitted 1 2 3 "+want)
		line(t, api.Event{Kind: api.EvStored, Job: 1, Badge: 2, Texts: []string{text}}, "stored 1 2 0 "+want)
	}
	for a := range 256 {
		for b := range 256 {
			lines(t, api.Event{Kind: api.EvWrote, Text: string([]byte{byte(a), byte(b)})})
		}
		lines(t, api.Event{Kind: api.EvEmitted, Text: string([]byte{byte(a)})})
	}
	for n := range 300 {
		lines(t, api.Event{Kind: api.EvEmitted, Text: strings.Repeat("ab\xfe", n)})
	}
}

// Texts: a word each, none at all if there are none; no bytes are a word, too.
func TestP24_1Texts(t *testing.T) {
	for _, x := range []struct {
		texts []string
		want  string
	}{
		{nil, ""}, {[]string{}, ""}, {[]string{""}, " -"}, {[]string{"", ""}, " - -"}, {[]string{"a"}, " 61"}, {[]string{"ab"}, " 6162"}, {[]string{"a", "b"}, " 61 62"},
		{[]string{"b", "a"}, " 62 61"}, {[]string{"", "a"}, " - 61"}, {[]string{"a", ""}, " 61 -"}, {[]string{"a", "", "", "-"}, " 61 - - 2d"},
		{slices.Repeat([]string{"\xff"}, 40), strings.Repeat(" ff", 40)},
	} {
		line(t, api.Event{Kind: api.EvStored, Job: 1, Badge: 2, Index: 3, Texts: x.texts}, "stored 1 2 3"+x.want)
		line(t, api.Event{Kind: api.EvShown, Job: 1, Badge: 2, Status: 3, Texts: x.texts}, "shown 1 2 3 0 0000000000000000"+x.want)
	}
}

// Any events, with any fields.
func TestP24_1AnyEvents(t *testing.T) {
	rnd := newRand(1)
	for n := range 60000 {
		got := lines(t, anyEvent(rnd, n%16))
		if strings.Contains(got, "  ") || strings.TrimSpace(got) != got || strings.Contains(got, "\n") {
			t.Fatalf("%q", got)
		}
	}
}
