package cluster_test

import (
	"slices"
	"testing"

	"gaffer/api"
	"gaffer/cluster"
)

// watch is told the events of a fleet's steps and nothing else of what is done; it holds what follows (P20.7 to P20.11) against them, and against what the fleet shows.
type watch struct {
	t        *testing.T
	x        *cluster.Cluster
	known    []job               // as all events tell them
	cut      []api.Event         // of the call in which the power went last, had it not; no longer, when jobs were shown
	texts    []string            // of all Submits that were not refused, in their order
	emitted  map[int][]string    // by badges
	ends     map[int][]api.Event // likewise
	admitted map[int]api.Artefact
	granted  int // the last badge
	recorded map[int]bool
	lost     map[int]bool
	kinds    map[int]int // how many events of each kind came
	powers   int         // how often the power went
	behind   int         // how often jobs were shown as behind the cut call, and not as ahead of it
}

// job as it is known.
type job struct {
	status, badge int
	result        api.Result
	log           []string
	program       string
}

func watches(t *testing.T, x *cluster.Cluster) *watch {
	return &watch{
		t: t, x: x, emitted: map[int][]string{}, ends: map[int][]api.Event{}, admitted: map[int]api.Artefact{},
		recorded: map[int]bool{}, lost: map[int]bool{}, kinds: map[int]int{},
	}
}

func sameJob(a, b job) bool {
	return a.status == b.status && a.badge == b.badge && a.result == b.result && slices.Equal(a.log, b.log)
}

// step does one, and looks.
func (w *watch) step(s api.Step) []api.Event {
	w.t.Helper()
	ahead := w.x.Clone()
	l := w.x.Step(s)
	if powerWent(s, l) && s.Kind != api.StStart {
		w.powers++
		w.cut = uncut(w.t, ahead, s)
		if s.Kind == api.StSubmit {
			w.texts = append(w.texts[:len(w.known):len(w.known)], s.Text)
		}
	}
	for i := 0; i < len(l); i++ {
		w.kinds[l[i].Kind]++
		switch {
		case l[i].Kind == api.EvSubmitted:
			w.texts = append(w.texts[:len(w.known):len(w.known)], s.Text)
			w.tells(l[i])
		case l[i].Kind == api.EvUp && l[i].Who == api.Addr{}:
			w.shows(l[i+1:])
			i = len(l)
		default:
			w.tells(l[i])
		}
	}
	w.look()
	return l
}

func powerWent(s api.Step, l []api.Event) bool {
	return s.Kind != api.StCrash && slices.ContainsFunc(l, func(e api.Event) bool { return e.Kind == api.EvDown })
}

// uncut is what the call in which the power goes would tell: a round is done as its single steps, and the first one in which the power goes once more without the cut.
func uncut(t *testing.T, x *cluster.Cluster, s api.Step) []api.Event {
	t.Helper()
	try := func(s api.Step) ([]api.Event, bool) {
		ahead := x.Clone()
		if !powerWent(s, x.Step(s)) {
			return nil, false
		}
		ahead.Step(cuts(0, 0))
		return ahead.Step(s), true
	}
	if s.Kind != api.StRound && s.Kind != api.StSettle {
		l, _ := try(s)
		return l
	}
	for range max(1, s.K) {
		for n := range 2 + x.Config().Runners {
			for _, s := range []api.Step{ticks(n), stepsOf(n)} {
				if l, went := try(s); went {
					return l
				}
			}
		}
		for range x.Bag() {
			if l, went := try(delivers(0)); went {
				return l
			}
		}
	}
	t.Fatalf("%+v: its single steps are not cut", s)
	return nil
}

// behindThese is jobs with what such events tell of them.
func behindThese(l []job, events []api.Event) []job {
	l = slices.Clone(l)
	for _, e := range events {
		var j *job
		if e.Job >= 1 && e.Job <= len(l) {
			j = &l[e.Job-1]
		}
		switch e.Kind {
		case api.EvSubmitted:
			l = append(l, job{status: api.Queued})
		case api.EvGranted:
			*j = job{status: api.Held, badge: e.Badge}
		case api.EvExpired:
			j.status = api.Queued
		case api.EvLost:
			j.status = api.Lost
		case api.EvStored:
			j.log = append(slices.Clone(j.log), e.Texts...)
		case api.EvRecorded:
			j.status, j.result = api.Recorded, e.Result
		}
	}
	return l
}

// shows: the jobs that a coordinator shows are those that are known, or as they would be behind the cut call.
func (w *watch) shows(l []api.Event) {
	w.t.Helper()
	var got []job
	for i, e := range l {
		w.kinds[e.Kind]++
		if e.Kind != api.EvShown || e.Job != i+1 {
			w.t.Fatalf("shown: %+v", l)
		}
		got = append(got, job{status: e.Status, badge: e.Badge, result: e.Result, log: e.Texts})
	}
	if would := behindThese(w.known, w.cut); !slices.EqualFunc(got, w.known, sameJob) {
		if w.cut == nil || !slices.EqualFunc(got, would, sameJob) {
			w.t.Fatalf("shown: %+v, not %+v, and not %+v", got, w.known, would)
		}
		w.behind++
		for _, e := range w.cut {
			w.counts(e)
		}
		w.known = would
	}
	w.cut = nil
	w.texts = w.texts[:len(w.known)]
}

// tells takes an event that is told.
func (w *watch) tells(e api.Event) {
	w.t.Helper()
	w.counts(e)
	switch e.Kind {
	case api.EvGranted, api.EvExpired, api.EvLost, api.EvStored, api.EvRecorded:
		if e.Job < 1 || e.Job > len(w.known) {
			w.t.Fatalf("told: %+v", e)
		}
		j := w.known[e.Job-1]
		if want := api.Held; e.Kind == api.EvGranted && j.status != api.Queued || e.Kind != api.EvGranted && (j.status != want || j.badge != e.Badge) {
			w.t.Fatalf("told: %+v of %+v", e, j)
		}
		if e.Kind == api.EvStored && (e.Index != len(j.log) || len(e.Texts) == 0) {
			w.t.Fatalf("told: %+v of %+v", e, j)
		}
	case api.EvEmitted:
		if e.Index != len(w.emitted[e.Badge]) {
			w.t.Fatalf("told: %+v behind %q", e, w.emitted[e.Badge])
		}
		w.emitted[e.Badge] = append(w.emitted[e.Badge], e.Text)
	case api.EvEnded:
		w.ends[e.Badge] = append(w.ends[e.Badge], e)
	case api.EvAdmitted:
		w.admits(e)
	}
	w.known = behindThese(w.known, []api.Event{e})
}

// counts: what there is at most one of, and what rises, whether it was told or only shown (P20.7, P20.8).
func (w *watch) counts(e api.Event) {
	w.t.Helper()
	switch e.Kind {
	case api.EvGranted:
		if e.Badge <= w.granted {
			w.t.Fatalf("granted: %+v behind %d", e, w.granted)
		}
		w.granted = e.Badge
	case api.EvLost:
		if w.lost[e.Job] || w.recorded[e.Job] {
			w.t.Fatalf("lost, or recorded, ahead of that: %+v", e)
		}
		w.lost[e.Job] = true
	case api.EvRecorded:
		if w.lost[e.Job] || w.recorded[e.Job] {
			w.t.Fatalf("lost, or recorded, ahead of that: %+v", e)
		}
		w.recorded[e.Job] = true
		o := whole(w.texts[e.Job-1])
		if e.Result != o.Result {
			w.t.Fatalf("recorded: %+v, not %+v", e, o)
		}
		is := func(v api.Event) bool {
			return v.Job == e.Job && v.Result == e.Result && v.Count == len(o.Chunks)
		}
		if !slices.ContainsFunc(w.ends[e.Badge], is) {
			w.t.Fatalf("recorded: %+v; ended: %+v", e, w.ends[e.Badge])
		}
	}
}

// admits (P20.8).
func (w *watch) admits(e api.Event) {
	w.t.Helper()
	a := w.admitted[e.Job]
	switch {
	case e.Badge < a.Badge, e.Badge == a.Badge && e.Index != len(a.Pieces)+1, e.Badge > a.Badge && e.Index != 0:
		w.t.Fatalf("admitted: %+v behind %+v", e, a)
	case e.Index == 0:
		a = api.Artefact{Job: e.Job, Badge: e.Badge}
	default:
		a.Pieces = append(slices.Clone(a.Pieces), e.Text)
	}
	w.admitted[e.Job] = a
}

// look holds what is shown now against what is known, and that against the programs.
func (w *watch) look() {
	w.t.Helper()
	a := w.x.Artefacts()
	if len(a) != len(w.admitted) || slices.ContainsFunc(a, func(a api.Artefact) bool { return !sameArtefact(a, w.admitted[a.Job]) }) {
		w.t.Fatalf("artefacts %+v, not %+v", a, w.admitted)
	}
	if v, is := w.x.View(); is {
		var l []job
		for i, p := range v.Jobs {
			l = append(l, job{status: p.Row.Status, badge: p.Row.Badge, result: p.Row.Result, log: p.Log})
			if p.Row.Job != i+1 || p.Program != w.texts[i] {
				w.t.Fatalf("the job %d: %+v, not of %q", i+1, p, w.texts[i])
			}
		}
		if !slices.EqualFunc(l, w.known, sameJob) {
			w.t.Fatalf("jobs %+v, known %+v", l, w.known)
		}
	}
	for i, j := range w.known {
		w.lookAt(i+1, j)
	}
}

// lookAt holds a job against its program, its attempt and its artefact (P20.9, P20.11).
func (w *watch) lookAt(number int, j job) {
	w.t.Helper()
	e := w.emitted[j.badge]
	if len(j.log) > len(e) || !slices.Equal(j.log, e[:len(j.log)]) {
		w.t.Fatalf("the job %d: the log %q, emitted %q", number, j.log, e)
	}
	if j.status != api.Recorded {
		return
	}
	o, a := whole(w.texts[number-1]), w.admitted[number]
	if !slices.Equal(j.log, o.Chunks) || !slices.Equal(e, o.Chunks) || j.result != o.Result || a.Badge != j.badge || !slices.Equal(a.Pieces, o.Pieces) {
		w.t.Fatalf("the job %d: recorded %+v with %+v, not %+v", number, j, a, o)
	}
	for _, v := range w.ends[j.badge] {
		if v.Count != len(o.Chunks) || v.Result != o.Result || v.Job != number {
			w.t.Fatalf("the job %d: ended %+v, not %+v", number, v, o)
		}
	}
}
