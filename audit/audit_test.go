package audit_test

import (
	"math"
	"slices"
	"testing"

	"gaffer/api"
	"gaffer/audit"
)

// far numbers are none of anything.
var far = []int{math.MinInt, -1 << 40, -1 << 32, -2, -1, 1 << 32, 1<<32 + 1, 1 << 41, math.MaxInt}

// Each number of a kind, and those beside them.
func TestP21_1Kind(t *testing.T) {
	for kind := -3; kind <= 40; kind++ {
		v := api.Event{Kind: kind, Job: 1}
		if 1 <= kind && kind <= 14 {
			asks(t, row(v))
			if _, e := audit.All(row(v)); e != api.OK {
				t.Errorf("%+v: %v", v, e)
			}
		} else {
			refuses(t, api.ErrAuditEvent, row(v))
		}
	}
	for _, kind := range far {
		refuses(t, api.ErrAuditEvent, row(api.Event{Kind: kind, Job: 1}))
	}
	refuses(t, api.ErrAuditEvent, row(api.Event{}))
}

// Jobs and indexes of each kind at their bounds, and beyond them: just those kinds are looked at that have one.
func TestP21_1Bounds(t *testing.T) {
	jobs := []int{api.EvSubmitted, api.EvGranted, api.EvExpired, api.EvLost, api.EvStored, api.EvRecorded, api.EvAdmitted, api.EvShown}
	indexes := []int{api.EvStored, api.EvEmitted, api.EvWrote, api.EvAdmitted}
	for kind := api.EvRefused; kind <= api.EvShown; kind++ {
		for _, job := range append([]int{0, 1, 2, 7, 8, 9, 10}, far...) {
			for _, index := range append([]int{0, 1, 1<<40 - 1, 1 << 40, 1<<40 + 1}, far...) {
				v := api.Event{Kind: kind, Job: job, Index: index}
				noJob := slices.Contains(jobs, kind) && (job < 1 || job > 8)
				noIndex := slices.Contains(indexes, kind) && (index < 0 || index > 1099511627776)
				if noJob || noIndex {
					refuses(t, api.ErrAuditEvent, row(v))
				} else if _, e := audit.All(row(v)); e != api.OK {
					t.Errorf("%+v: %v", v, e)
				}
				asks(t, row(v))
			}
		}
	}
}

// No other field of an event is bounded.
func TestP21_1Others(t *testing.T) {
	for kind := api.EvRefused; kind <= api.EvShown; kind++ {
		for _, n := range far {
			for _, v := range []api.Event{
				{Badge: n}, {Count: n}, {Status: n}, {Code: api.Errno(n)}, {Who: api.Addr{Node: n}}, {Who: api.Addr{Life: n}},
				{Result: api.Result{Code: n, Bits: uint64(n)}}, {Text: "\xff", Texts: make([]string, 200)},
				{Badge: n, Count: n, Status: n, Code: api.Errno(n), Who: api.Addr{Node: n, Life: n}},
			} {
				v.Kind, v.Job = kind, 1
				for _, l := range [][]api.Event{row(v), row(submitted(1), v, v), row(submitted(1), granted(1, 3), v, v, up(), v, v)} {
					asks(t, l)
					if _, e := audit.All(l); e != api.OK {
						t.Fatalf("%+v: %v", l, e)
					}
				}
			}
		}
	}
}

// An event that may not be is an error wherever it stands, whatever faults there are ahead of it.
func TestP21_1Where(t *testing.T) {
	l := row(submitted(2), granted(1, 3), submitted(1), granted(1, 2), refused(), recorded(1, 2, seven), shown(1, 2, api.Held, zero))
	if len(asks(t, l)) < 5 {
		t.Fatal("it has no faults")
	}
	for _, bad := range []api.Event{{}, {Kind: 15}, submitted(0), submitted(9), granted(0, 3), granted(9, 3), shown(9, 0, api.Queued, zero), emitted(1, 3, -1, ""), wrote(1, 3, 1<<40+1, ""), admitted(0, 3, 0, ""), admitted(1, 3, -1, "")} {
		for at := range len(l) + 1 {
			refuses(t, api.ErrAuditEvent, slices.Insert(slices.Clone(l), at, bad))
		}
		refuses(t, api.ErrAuditEvent, row(bad))
		refuses(t, api.ErrAuditEvent, row(bad, bad))
	}
}

// How many events there may be; that is told ahead of what they are.
func TestP21_1Many(t *testing.T) {
	for _, n := range []int{65535, 65536, 65537, 65538, 200000} {
		want, ofBad := api.OK, api.ErrAuditEvent
		if n > 65536 {
			want, ofBad = api.ErrAuditMany, api.ErrAuditMany
		}
		l := slices.Repeat(row(refused()), n)
		refuses(t, want, l)
		for _, at := range []int{0, n / 2, n - 1} {
			bad := slices.Clone(l)
			bad[at].Kind = 15
			refuses(t, ofBad, bad)
		}
	}
	refuses(t, api.OK, nil)
	refuses(t, api.OK, []api.Event{})
	// Faults are told of as many as may be.
	l := slices.Repeat(row(granted(1, 3)), 65536)
	if got, e := audit.All(l); e != api.OK || len(got) != 2*65536-1 {
		t.Errorf("%d, %v", len(got), e)
	}
}

// Faults stand by the places of their events, and those of one event by rising rules, each once.
func TestP21_3Order(t *testing.T) {
	// Each pair of events of which the one breaks a rule of a smaller number behind one of a greater.
	tells(t, row(submitted(1), granted(1, 3), admitted(1, 3, 1, ""), recorded(1, 3, seven), recorded(1, 3, seven), granted(1, 3), submitted(1)),
		fault(api.RuleAdmit, 2), fault(api.RuleReal, 3), fault(api.RuleWhole, 3), fault(api.RuleOnce, 4), fault(api.RuleReal, 4), fault(api.RuleWhole, 4),
		fault(api.RuleRise, 5), fault(api.RuleHold, 5), fault(api.RuleKeep, 6))
	// Jobs that are not shown any more beside what else the event breaks: RuleKeep is told last, and once.
	began := row(submitted(1), granted(1, 3), up())
	keep := fault(api.RuleKeep, 3)
	tells(t, behind(began, submitted(2)), keep)
	tells(t, behind(began, submitted(1)), keep)
	tells(t, behind(began, submitted(3)), keep)
	tells(t, behind(began, granted(1, 2)), fault(api.RuleRise, 3), fault(api.RuleHold, 3), keep)
	tells(t, behind(began, granted(2, 4)), fault(api.RuleHold, 3), keep)
	tells(t, behind(began, expired(1, 2)), fault(api.RuleHold, 3), keep)
	tells(t, behind(began, lost(1, 2)), fault(api.RuleHold, 3), keep)
	tells(t, behind(began, stored(1, 3, 0, "a")), fault(api.RulePrefix, 3), keep)
	tells(t, behind(began, recorded(1, 3, seven)), fault(api.RuleReal, 3), fault(api.RuleWhole, 3), keep)
	tells(t, behind(began, recorded(1, 2, seven)), fault(api.RuleReal, 3), fault(api.RuleHold, 3), fault(api.RuleWhole, 3), keep)
	tells(t, behind(began, admitted(1, 0, 1, "")), fault(api.RuleAdmit, 3), keep)
	tells(t, behind(began, shown(1, 3, api.Recorded, seven, "a")), fault(api.RuleReal, 3), fault(api.RulePrefix, 3), fault(api.RuleWhole, 3), keep)
	settled := row(submitted(1), granted(1, 3), ended(1, 3, 0, seven), recorded(1, 3, seven), up())
	tells(t, behind(settled, recorded(1, 3, seven)), fault(api.RuleOnce, 5), fault(api.RuleKeep, 5))
	tells(t, behind(settled, recorded(1, 4, trap)), fault(api.RuleOnce, 5), fault(api.RuleReal, 5), fault(api.RuleWhole, 5), fault(api.RuleKeep, 5))
}

// The first one is that of the least place, and of the least rule there.
func TestP21_3First(t *testing.T) {
	for _, c := range []struct {
		l    []api.Event
		want api.Fault
		any  bool
	}{
		{row(), api.Fault{}, false},
		{row(submitted(1), granted(1, 3), expired(1, 3)), api.Fault{}, false},
		{row(submitted(2), recorded(1, 3, seven)), fault(api.RuleKeep, 0), true},
		{row(submitted(1), recorded(1, 3, seven), submitted(1)), fault(api.RuleReal, 1), true},
		{row(submitted(1), granted(1, 0), submitted(1)), fault(api.RuleRise, 1), true},
		{row(refused(), down(), upOf(2, 2), shown(1, 0, api.Queued, zero)), fault(api.RuleKeep, 3), true},
	} {
		f, any, e := audit.First(c.l)
		if f != c.want || any != c.any || e != api.OK {
			t.Errorf("First(%+v): %+v, %v, %v", c.l, f, any, e)
		}
		asks(t, c.l)
	}
	// A history that is refused has no first one.
	f, any, e := audit.First(row(granted(1, 3), submitted(9)))
	if f != (api.Fault{}) || any || e != api.ErrAuditEvent {
		t.Errorf("First: %+v, %v, %v", f, any, e)
	}
}
