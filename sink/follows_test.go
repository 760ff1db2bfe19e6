package sink_test

import (
	"fmt"
	"math/rand"
	"slices"
	"testing"

	"gaffer/api"
)

// inOrder holds a row of what was admitted against the promise: of a job no badge falls, and under one badge the indices are 0, 1, 2 ..
func inOrder(t *testing.T, l []api.Event) {
	t.Helper()
	badges, counts := map[int]int{}, map[int]int{}
	for _, x := range l {
		if x.Badge < badges[x.Job] {
			t.Fatalf("%+v behind the badge %d", x, badges[x.Job])
		}
		if x.Badge > badges[x.Job] {
			badges[x.Job], counts[x.Job] = x.Badge, 0
		}
		if x.Index != counts[x.Job] {
			t.Fatalf("%+v, but %d came ahead of it", x, counts[x.Job])
		}
		counts[x.Job]++
	}
}

// asAdmitted holds artefacts against a row of what was admitted: of each job what came under its last badge, without the claim.
func asAdmitted(t *testing.T, l []api.Event, shown []api.Artefact) {
	t.Helper()
	var want []api.Artefact
	for job := 1; job <= 8; job++ {
		var a api.Artefact
		for _, x := range l {
			if x.Job == job && x.Index == 0 {
				a = api.Artefact{Job: job, Badge: x.Badge}
			} else if x.Job == job {
				a.Pieces = append(a.Pieces, x.Text)
			}
		}
		if a.Job > 0 {
			want = append(want, a)
		}
	}
	if !sameArtefacts(shown, want) {
		t.Fatalf("Artefacts: %+v, not %+v", shown, want)
	}
}

// everyPut tells the puts of a job that there may be, and those beside them.
func everyPut(job, badges, indices int, tell func(x entry)) {
	for badge := 0; badge <= badges+1; badge++ {
		for index := -1; index <= indices+1; index++ {
			for _, text := range []string{"", name(badge, max(index, 1)), "other", long(33)} {
				tell(entry{job, badge, index, text})
			}
		}
	}
}

// Every put at every state of one job under four badges, to its last piece.
func TestP16_5EveryState(t *testing.T) {
	const badges = 4
	first := made(t)
	key := func(b both) string {
		l := b.s.Artefacts()
		if len(l) == 0 {
			return "nothing"
		}
		return fmt.Sprint(l[0].Badge, len(l[0].Pieces))
	}
	seen := map[string]int{key(first): 1}
	work := []both{first}
	for len(work) > 0 {
		b := work[0]
		work = work[1:]
		everyPut(1, badges, 16, func(x entry) {
			o := b.clone()
			_, is, e := o.put(x)
			if lesser := x.badge < b.w.badge(1); lesser && e == api.OK || !is && !sameArtefacts(o.s.Artefacts(), b.w.artefacts()) {
				t.Fatalf("%+v: Put(%+v): %v, %v", b.w.artefacts(), x, is, e)
			}
			o.same()
			o.again(x)
			if k := key(o); seen[k] == 0 && x.badge <= badges {
				seen[k] = 1
				work = append(work, o)
			}
		})
		b.same() // what was done to its clones is not seen here
		inOrder(t, b.clone().tell())
	}
	if want := 1 + badges*17; len(seen) != want {
		t.Errorf("%d states, not %d", len(seen), want)
	}
}

// again says a put that was said just now: the same is answered, but that nothing is admitted, and nothing changes.
func (b both) again(x entry) {
	b.t.Helper()
	o := b.clone()
	n, is, e := o.put(x)
	if is || !sameArtefacts(o.s.Artefacts(), b.w.artefacts()) || !sameEvents(o.s.Told(), b.w.clone().tell()) {
		b.t.Fatalf("%+v: Put(%+v) again: %d, %v, %v", b.w.artefacts(), x, n, is, e)
	}
}

// Every put of two jobs at every state of both, of two badges and two pieces: what stands of the other job stays.
func TestP16_5EveryStateOfTwoJobs(t *testing.T) {
	key := func(b both) string {
		s := ""
		for _, a := range b.s.Artefacts() {
			s += fmt.Sprint(a.Job, a.Badge, len(a.Pieces), ";")
		}
		return s
	}
	first := made(t)
	seen := map[string]int{key(first): 1}
	work := []both{first}
	for len(work) > 0 {
		b := work[0]
		work = work[1:]
		for job := 1; job <= 2; job++ {
			other := 3 - job
			everyPut(job, 2, 2, func(x entry) {
				o := b.clone()
				o.put(x)
				o.same()
				if !slices.Equal(o.w.under(other, o.w.badge(other)), b.w.under(other, b.w.badge(other))) {
					t.Fatal("the other job has changed")
				}
				if k := key(o); seen[k] == 0 && x.badge <= 2 && x.index <= 2 {
					seen[k] = 1
					work = append(work, o)
				}
			})
		}
	}
	if len(seen) != 7*7 {
		t.Errorf("%d states, not 49", len(seen))
	}
}

// On long walks: no badge falls, no index is left out, and the artefacts are what was admitted last.
func TestP16_5Walks(t *testing.T) {
	taken, full := 0, 0
	for seed := range int64(120) {
		rnd := rand.New(rand.NewSource(seed))
		b := made(t)
		var all []api.Event
		for range 300 {
			x := anyEntry(rnd, b.w)
			if mayBeSaid(x) && rnd.Intn(2) == 0 {
				b.hear(runner, x)
			} else {
				b.put(x)
			}
			b.again(x)
			if rnd.Intn(4) == 0 {
				all = append(all, b.tell()...)
				asAdmitted(t, all, b.s.Artefacts())
			}
		}
		all = append(all, b.tell()...)
		inOrder(t, all)
		asAdmitted(t, all, b.s.Artefacts())
		for _, x := range all {
			if x.Index == 0 && x.Badge > 1 {
				taken++
			}
			if x.Index == 16 {
				full++
			}
		}
	}
	if taken < 100 || full < 10 {
		t.Errorf("just %d artefacts were taken over, %d were full", taken, full)
	}
}

// Once something was admitted under a badge, nothing that bears a lesser one changes the job's artefact, however it comes.
func TestP16_5LesserChangesNothing(t *testing.T) {
	for seed := range int64(60) {
		rnd := rand.New(rand.NewSource(seed))
		b := made(t)
		for range 40 {
			b.put(anyEntry(rnd, b.w))
		}
		b.tell()
		shown := b.s.Artefacts()
		for range 200 {
			x := anyEntry(rnd, b.w)
			last := b.w.badge(x.job)
			if last < 2 {
				continue
			}
			x.badge = 1 + rnd.Intn(last-1)
			if mayBeSaid(x) && rnd.Intn(2) == 0 {
				if !b.hear(runner, x) {
					t.Fatalf("Hear(%+v) was not refused", x)
				}
			} else if _, is, e := b.put(x); is || e != api.ErrSinkBadge && e != api.ErrSinkText {
				t.Fatalf("Put(%+v): %v, %v", x, is, e)
			}
		}
		if !sameArtefacts(b.s.Artefacts(), shown) || len(b.tell()) > 0 {
			t.Fatalf("%+v became %+v", shown, b.s.Artefacts())
		}
	}
}

// Whatever was admitted ever, said again at any later time, in any order: nothing changes.
func TestP16_5SaidAgainLater(t *testing.T) {
	for seed := range int64(60) {
		rnd := rand.New(rand.NewSource(seed))
		b := made(t)
		for step := range 120 {
			b.put(anyEntry(rnd, b.w))
			if step%10 > 0 {
				continue
			}
			b.tell()
			shown := b.s.Artefacts()
			for _, i := range rnd.Perm(len(b.w.all)) {
				x := b.w.all[i]
				if rnd.Intn(2) == 0 {
					b.hear(runner, x)
				} else if _, is, _ := b.put(x); is {
					t.Fatalf("Put(%+v) was admitted again", x)
				}
			}
			if !sameArtefacts(b.s.Artefacts(), shown) || len(b.tell()) > 0 {
				t.Fatalf("%+v became %+v", shown, b.s.Artefacts())
			}
		}
	}
}

// answer is what a put is answered.
type answer struct {
	n  int
	is bool
	e  api.Errno
}

// row puts one behind the other: their answers.
func (b both) row(l []entry) []answer {
	b.t.Helper()
	var out []answer
	for _, x := range l {
		n, is, e := b.put(x)
		out = append(out, answer{n, is, e})
	}
	return out
}

// ofJob is what was told of a job.
func ofJob(l []api.Event, job int) []api.Event {
	var out []api.Event
	for _, x := range l {
		if x.Job == job {
			out = append(out, x)
		}
	}
	return out
}

// Two puts of unlike jobs, one behind the other, in both orders, wherever the sink stands: the same is answered to each, and the same stands there then.
func TestP16_5ChangePlaces(t *testing.T) {
	for seed := range int64(300) {
		rnd := rand.New(rand.NewSource(seed))
		b := made(t)
		for range rnd.Intn(80) {
			b.put(anyEntry(rnd, b.w))
		}
		for range 20 {
			x, y := anyEntry(rnd, b.w), anyEntry(rnd, b.w)
			if x.job == y.job {
				continue
			}
			one, two := b.clone(), b.clone()
			a, c := one.row([]entry{x, y}), two.row([]entry{y, x})
			if a[0] != c[1] || a[1] != c[0] || !sameArtefacts(one.s.Artefacts(), two.s.Artefacts()) {
				t.Fatalf("%+v, %+v: %+v, in the other order %+v", x, y, a, c)
			}
			told, toldTwo := one.tell(), two.tell()
			for job := range 9 {
				if !sameEvents(ofJob(told, job), ofJob(toldTwo, job)) {
					t.Fatalf("%+v, %+v: %+v was told, in the other order %+v", x, y, told, toldTwo)
				}
			}
		}
	}
}

// Rows of puts of all jobs, mixed as you like: each job stands as if it were alone.
func TestP16_5JobsStandApart(t *testing.T) {
	for seed := range int64(60) {
		rnd := rand.New(rand.NewSource(seed))
		rows, alone := [9][]entry{}, [9]both{}
		answers := [9][]answer{}
		for job := 1; job <= 8; job++ {
			alone[job] = made(t)
			for range 40 {
				x := anyEntry(rnd, &words{all: mapJob(alone[job].w.all, 1)})
				x.job = job
				rows[job] = append(rows[job], x)
				answers[job] = append(answers[job], alone[job].row([]entry{x})...)
			}
		}
		b := made(t)
		at := [9]int{}
		for range 8 * 40 {
			job := 1 + rnd.Intn(8)
			for at[job] == 40 {
				job = job%8 + 1
			}
			if got := b.row(rows[job][at[job] : at[job]+1]); got[0] != answers[job][at[job]] {
				t.Fatalf("job %d: Put(%+v): %+v, alone %+v", job, rows[job][at[job]], got[0], answers[job][at[job]])
			}
			at[job]++
		}
		b.same()
		var want []api.Artefact
		told := b.tell()
		for job := 1; job <= 8; job++ {
			want = append(want, alone[job].s.Artefacts()...)
			if !sameEvents(ofJob(told, job), alone[job].tell()) {
				t.Fatalf("job %d: what was told is not as alone", job)
			}
		}
		if !sameArtefacts(b.s.Artefacts(), want) {
			t.Fatalf("%+v, alone %+v", b.s.Artefacts(), want)
		}
	}
}

// mapJob is the same pieces, of another job.
func mapJob(l []entry, job int) []entry {
	l = slices.Clone(l)
	for i := range l {
		l[i].job = job
	}
	return l
}

// A MsgPut is always answered by one datagram, and refused just if its badge is below the job's.
func TestP16_5AlwaysAnswered(t *testing.T) {
	refused := 0
	for seed := range int64(100) {
		rnd := rand.New(rand.NewSource(seed))
		b := made(t)
		for range 300 {
			x := entry{1 + rnd.Intn(8), 1 + rnd.Intn(6), rnd.Intn(17), long(rnd.Intn(33))}
			if rnd.Intn(2) == 0 {
				x = anyEntry(rnd, b.w)
			}
			if rnd.Intn(200) == 0 {
				x.badge = top - rnd.Intn(2)
			}
			if x.index == 0 {
				x.text = ""
			}
			if !mayBeSaid(x) {
				continue
			}
			lesser := x.badge < b.w.badge(x.job)
			if b.hear(runner, x) != lesser {
				t.Fatalf("Hear(%+v): below the job's badge %v", x, lesser)
			}
			if lesser {
				refused++
			}
		}
		b.same()
	}
	if refused < 1000 {
		t.Errorf("just %d were refused", refused)
	}
}
