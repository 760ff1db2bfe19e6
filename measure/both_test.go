package measure_test

import (
	"slices"
	"testing"

	"gaffer/api"
	"gaffer/cluster"
	"gaffer/measure"
)

// asks for the Units of a fleet, and holds them against the words.
func asks(t *testing.T, x *cluster.Cluster) (int, api.Errno) {
	t.Helper()
	n, e := measure.Units(x)
	if want, we := told(x).units(); n != want || e != we {
		t.Fatalf("Units: %d, %v, not %d, %v", n, e, want, we)
	}
	return n, e
}

// measures asks for Of, likewise.
func measures(t *testing.T, x *cluster.Cluster) (int, api.Errno) {
	t.Helper()
	n, e := measure.Of(x)
	if want, we := told(x).of(); n != want || e != we {
		t.Fatalf("Of: %d, %v, not %d, %v", n, e, want, we)
	}
	return n, e
}

// units holds that a fleet has so many.
func units(t *testing.T, x *cluster.Cluster, want int) {
	t.Helper()
	measures(t, x)
	if n, e := asks(t, x); n != want || e != api.OK {
		t.Fatalf("Units: %d, %v, not %d", n, e, want)
	}
}

// of holds that so much is measured of a fleet.
func of(t *testing.T, x *cluster.Cluster, want int) {
	t.Helper()
	asks(t, x)
	if n, e := measures(t, x); n != want || e != api.OK {
		t.Fatalf("Of: %d, %v, not %d", n, e, want)
	}
}

// isDown holds that nothing is measured.
func isDown(t *testing.T, x *cluster.Cluster) {
	t.Helper()
	n, e := asks(t, x)
	m, f := measures(t, x)
	if n != 0 || m != 0 || e != api.ErrMeasureDown || f != api.ErrMeasureDown {
		t.Fatalf("Units: %d, %v; Of: %d, %v", n, e, m, f)
	}
}

// shown is all that a fleet shows.
type shown struct {
	config  api.Config
	up      []bool
	bag     []api.Datagram
	view    api.View
	leases  []api.Lease
	desks   []api.Desk
	looks   []api.Look
	sink    []api.Artefact
	disk    []string
	settled bool
}

func show(x *cluster.Cluster) shown {
	s := shown{config: x.Config(), bag: x.Bag(), sink: x.Artefacts(), disk: x.Disk(), settled: x.Settled()}
	s.view, _ = x.View()
	s.leases, _ = x.Leases()
	s.desks, _ = x.Sessions()
	for n := range 2 + x.Config().Runners {
		l, _ := x.Runner(n - 2)
		s.up, s.looks = append(s.up, x.Up(n)), append(s.looks, l)
	}
	return s
}

func same(a, b shown) bool {
	jobs := slices.EqualFunc(a.view.Jobs, b.view.Jobs, func(p, q api.Place) bool {
		return p.Row == q.Row && p.Program == q.Program && slices.Equal(p.Log, q.Log)
	})
	sinks := slices.EqualFunc(a.sink, b.sink, func(p, q api.Artefact) bool {
		return p.Job == q.Job && p.Badge == q.Badge && slices.Equal(p.Pieces, q.Pieces)
	})
	return jobs && sinks && a.config == b.config && a.settled == b.settled && a.view.Reserved == b.view.Reserved && slices.Equal(a.up, b.up) && slices.Equal(a.bag, b.bag) &&
		slices.Equal(a.leases, b.leases) && slices.Equal(a.desks, b.desks) && slices.Equal(a.looks, b.looks) && slices.Equal(a.disk, b.disk)
}
