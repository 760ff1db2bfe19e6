package world

import (
	"slices"
	"testing"

	"gaffer/api"
	"gaffer/cluster"
)

// No script comes to a fault, nor to more events than an audit takes: so the last line is asked for here, behind Run's back.

// The line of faults: how many there are.
func TestP24_2Faults(t *testing.T) {
	submitted, lost := api.Event{Kind: api.EvSubmitted, Job: 1}, api.Event{Kind: api.EvLost, Job: 1, Badge: 3}
	for _, x := range []struct {
		l    []api.Event
		want string
	}{
		{nil, "faults 0"},
		{[]api.Event{submitted}, "faults 0"},
		{[]api.Event{submitted, submitted}, "faults 1"},
		{[]api.Event{submitted, lost, submitted, lost}, "faults 3"},
		{slices.Repeat([]api.Event{submitted}, 12), "faults 11"},
		{[]api.Event{{Kind: api.EvGranted, Job: 1}}, "faults 2"},
	} {
		if got := faults(x.l); got != x.want {
			t.Errorf("%+v: %q, not %q", x.l, got, x.want)
		}
	}
}

// As many events as an audit takes, and one more.
func TestP24_2FaultsMany(t *testing.T) {
	l := slices.Repeat([]api.Event{{Kind: api.EvDown}}, api.MaxEvents+1)
	if got := faults(l[1:]); got != "faults 0" {
		t.Errorf("%q", got)
	}
	if got := faults(l); got != "faults many" {
		t.Errorf("%q", got)
	}
	l[3] = api.Event{Kind: api.EvLost, Job: 1}
	if got := faults(l[1:]); got != "faults 1" {
		t.Errorf("%q", got)
	}
	if got := faults(l); got != "faults many" {
		t.Errorf("%q", got)
	}
}

// The events of all steps are one history: each of these steps would have no fault alone.
func TestP24_2FaultsOfAllSteps(t *testing.T) {
	x, _ := cluster.New(api.Config{Runners: 1, Lease: 40, Resend: 2, Attempts: 2, Window: 2, Quantum: 8, Block: 4, Every: 4, Half: 160})
	one, two := api.Event{Kind: api.EvSubmitted, Job: 1}, api.Event{Kind: api.EvSubmitted, Job: 2}
	var s transcript
	for i, told := range [][]api.Event{{one}, nil, {{Kind: api.EvDown}, {Kind: api.EvUp, Who: api.Addr{Node: 2}}}, {one}, {two, {Kind: api.EvDown}}, {one}} {
		s.step(i+1, told)
	}
	s.end(x)
	if got, want := s.text.String(), "1 submitted 1\n2 -\n3 down 0 0\n3 up 2 0\n4 submitted 1\n5 submitted 2\n5 down 0 0\n6 submitted 1\nunder way 0\nfaults 2\n"; got != want {
		t.Errorf("%q, not %q", got, want)
	}
}
