package audit_test

import (
	"slices"
	"testing"

	"gaffer/api"
	"gaffer/audit"
)

// asks both calls for a history, holds them against one another and against the words, and answers the faults.
func asks(t *testing.T, l []api.Event) []api.Fault {
	t.Helper()
	got, e := audit.All(l)
	f, any, e2 := audit.First(l)
	if want := refusal(l); e != want || e2 != want {
		t.Fatalf("All(%+v): %v, First: %v, not %v", l, e, e2, want)
	}
	if e != api.OK {
		if len(got) > 0 || any || f != (api.Fault{}) {
			t.Fatalf("All(%+v): %+v, First: %+v, %v, beside an error", l, got, f, any)
		}
		return nil
	}
	if want := faults(l); !slices.Equal(got, want) {
		t.Fatalf("All(%+v): %+v, not %+v", l, got, want)
	}
	first := api.Fault{}
	if len(got) > 0 {
		first = got[0]
	}
	if any != (len(got) > 0) || f != first {
		t.Fatalf("First(%+v): %+v, %v of %+v", l, f, any, got)
	}
	return got
}

// tells holds that these are a history's faults, each in its place, and that what is told of its beginnings is theirs.
func tells(t *testing.T, l []api.Event, want ...api.Fault) {
	t.Helper()
	if got := asks(t, l); !slices.Equal(got, want) {
		t.Fatalf("All(%+v): %+v, not %+v", l, got, want)
	}
	beginnings(t, l, want)
}

// beginnings: what is told of them is the beginning of what is told of the whole (P21.4).
func beginnings(t *testing.T, l []api.Event, all []api.Fault) {
	t.Helper()
	for n := range l {
		ahead := 0
		for ahead < len(all) && all[ahead].At < n {
			ahead++
		}
		if got := asks(t, l[:n]); !slices.Equal(got, all[:ahead]) {
			t.Fatalf("of the first %d of %+v: %+v, not %+v", n, l, got, all[:ahead])
		}
	}
}

// refuses holds that a history is refused by an error.
func refuses(t *testing.T, e api.Errno, l []api.Event) {
	t.Helper()
	asks(t, l)
	if _, got := audit.All(l); got != e {
		t.Fatalf("%+v: %v, not %v", l, got, e)
	}
}

func fault(rule, at int) api.Fault { return api.Fault{Rule: rule, At: at} }

// row is events behind one another.
func row(l ...api.Event) []api.Event { return l }

// behind is a history and events behind it, in memory of its own.
func behind(l []api.Event, next ...api.Event) []api.Event { return slices.Concat(l, next) }

// events

var (
	zero  = api.Result{}
	seven = api.Result{Bits: 7}
	trap  = api.Result{Code: api.TrapFail}
)

func submitted(job int) api.Event { return api.Event{Kind: api.EvSubmitted, Job: job} }

func granted(job, badge int) api.Event {
	return api.Event{Kind: api.EvGranted, Job: job, Badge: badge, Who: api.Addr{Node: 2, Life: 1}}
}

func expired(job, badge int) api.Event {
	return api.Event{Kind: api.EvExpired, Job: job, Badge: badge}
}

func lost(job, badge int) api.Event { return api.Event{Kind: api.EvLost, Job: job, Badge: badge} }

func stored(job, badge, index int, texts ...string) api.Event {
	return api.Event{Kind: api.EvStored, Job: job, Badge: badge, Index: index, Texts: texts}
}

func recorded(job, badge int, r api.Result) api.Event {
	return api.Event{Kind: api.EvRecorded, Job: job, Badge: badge, Result: r}
}

func emitted(job, badge, index int, s string) api.Event {
	return api.Event{Kind: api.EvEmitted, Job: job, Badge: badge, Index: index, Text: s}
}

func wrote(job, badge, index int, s string) api.Event {
	return api.Event{Kind: api.EvWrote, Job: job, Badge: badge, Index: index, Text: s}
}

func ended(job, badge, count int, r api.Result) api.Event {
	return api.Event{Kind: api.EvEnded, Job: job, Badge: badge, Count: count, Result: r}
}

func admitted(job, badge, index int, s string) api.Event {
	return api.Event{Kind: api.EvAdmitted, Job: job, Badge: badge, Index: index, Text: s}
}

func down() api.Event { return api.Event{Kind: api.EvDown} }

func up() api.Event { return api.Event{Kind: api.EvUp} }

func upOf(node, life int) api.Event {
	return api.Event{Kind: api.EvUp, Who: api.Addr{Node: node, Life: life}}
}

func shown(job, badge, status int, r api.Result, texts ...string) api.Event {
	return api.Event{Kind: api.EvShown, Job: job, Badge: badge, Status: status, Result: r, Texts: texts}
}

func refused() api.Event { return api.Event{Kind: api.EvRefused, Code: api.ErrNetPlace} }
