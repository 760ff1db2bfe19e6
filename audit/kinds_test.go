package audit_test

import (
	"math"
	"slices"
	"testing"

	"gaffer/api"
)

// stands holds that behind a history, whatever its faults are, the jobs are known just so: shown so they are as they were, and shown otherwise the first one is not.
func stands(t *testing.T, l []api.Event, jobs ...standing) {
	t.Helper()
	ahead := len(asks(t, l))
	all := behind(l, up())
	for i, j := range jobs {
		all = append(all, shown(i+1, j.badge, j.status, j.result, j.log...))
	}
	all = append(all, down())
	keeps := func(l []api.Event) []int {
		var out []int
		for _, f := range asks(t, l)[ahead:] {
			if f.Rule == api.RuleKeep && f.At > len(all)-len(jobs)-2 {
				out = append(out, f.At)
			}
		}
		return out
	}
	if got := keeps(all); len(got) > 0 {
		t.Fatalf("%+v: jobs are not %+v: RuleKeep at %v", l, jobs, got)
	}
	if len(jobs) == 0 {
		return
	}
	at := len(all) - len(jobs) - 1
	for _, other := range others(all[at], jobs[0].status) {
		changed := slices.Clone(all)
		changed[at] = other
		if got := keeps(changed); len(got) == 0 || got[0] != at {
			t.Fatalf("%+v: jobs are %+v, and %+v is kept: %v", l, jobs, other, got)
		}
	}
}

// others are events that show a job otherwise than it is known, in no way that a cut makes.
func others(v api.Event, status int) []api.Event {
	var out []api.Event
	for _, s := range []int{0, api.Queued, api.Held, api.Recorded, api.Lost, 5, -1} {
		if s != v.Status && !(status == api.Held && s >= api.Queued && s <= api.Lost) {
			out = append(out, shown(v.Job, v.Badge, s, v.Result, v.Texts...))
		}
	}
	out = append(out,
		shown(v.Job, v.Badge+1, v.Status, v.Result, v.Texts...), shown(v.Job, v.Badge-1, v.Status, v.Result, v.Texts...),
		shown(v.Job, v.Badge, v.Status, api.Result{Code: v.Result.Code + 1, Bits: v.Result.Bits}, v.Texts...),
		shown(v.Job, v.Badge, v.Status, api.Result{Code: v.Result.Code, Bits: v.Result.Bits + 1}, v.Texts...))
	if status != api.Held {
		out = append(out, shown(v.Job, v.Badge, v.Status, v.Result, append(slices.Clone(v.Texts), "")...))
	}
	if n := len(v.Texts); n > 0 {
		out = append(out, shown(v.Job, v.Badge, v.Status, v.Result, v.Texts[:n-1]...), shown(v.Job, v.Badge, v.Status, v.Result, append(slices.Clone(v.Texts[:n-1]), v.Texts[n-1]+"x")...))
	}
	return out
}

// attempts is the job 1, held under the badge 3 with the log a, b, and its runner's end.
func attempts() []api.Event {
	return row(submitted(1), granted(1, 3), emitted(1, 3, 0, "a"), emitted(1, 3, 1, "b"), stored(1, 3, 0, "a", "b"), ended(1, 3, 2, seven))
}

var ab = []string{"a", "b"}

// Jobs are submitted one behind the other, each once.
func TestP21_2Submitted(t *testing.T) {
	fresh := standing{status: api.Queued}
	var l []api.Event
	for k := 1; k <= 8; k++ {
		for other := 1; other <= 8; other++ {
			if other != k {
				tells(t, behind(l, submitted(other)), fault(api.RuleKeep, len(l)))
				stands(t, behind(l, submitted(other)), slices.Repeat([]standing{fresh}, k-1)...)
				// The one that is next is it still.
				tells(t, behind(l, submitted(other), submitted(k)), fault(api.RuleKeep, len(l)))
			}
		}
		l = append(l, submitted(k))
		tells(t, l)
		stands(t, l, slices.Repeat([]standing{fresh}, k)...)
	}
	for k := 1; k <= 8; k++ {
		tells(t, behind(l, submitted(k)), fault(api.RuleKeep, 8))
	}
	// A job that is known stays as it stands.
	stands(t, behind(attempts(), submitted(1)), standing{api.Held, 3, zero, ab})
	stands(t, behind(attempts(), recorded(1, 3, seven), submitted(1)), standing{api.Recorded, 3, seven, ab})
	// A job that was only shown is known.
	tells(t, row(up(), shown(1, 0, api.Queued, zero), submitted(1)), fault(api.RuleKeep, 2))
	tells(t, row(up(), shown(1, 0, api.Queued, zero), submitted(2)))
}

// Badges that are granted rise, over all jobs; a job that is granted is known, and queued.
func TestP21_2Granted(t *testing.T) {
	two := row(submitted(1), submitted(2))
	rise, hold := fault(api.RuleRise, 3), fault(api.RuleHold, 3)
	for _, b := range append([]int{4, 5, 1000, 1 << 40, math.MaxInt}, far...) {
		if b > 3 {
			tells(t, behind(two, granted(1, 3), granted(2, b)))
		} else {
			tells(t, behind(two, granted(1, 3), granted(2, b)), rise)
			// The greatest one is what it was.
			tells(t, behind(two, granted(1, 3), granted(2, b), expired(2, b), granted(2, 4)), rise)
			tells(t, behind(two, granted(1, 3), granted(2, b), expired(2, b), granted(2, 3)), rise, fault(api.RuleRise, 5))
		}
		stands(t, behind(two, granted(1, 3), granted(2, b)), standing{api.Held, 3, zero, nil}, standing{api.Held, b, zero, nil})
	}
	for _, b := range []int{0, 1, 2, 3} {
		tells(t, behind(two, granted(1, 3), granted(2, b)), rise)
		tells(t, behind(two, granted(1, 3), granted(1, b)), rise, hold)
	}
	tells(t, row(submitted(1), granted(1, 0)), fault(api.RuleRise, 1))
	tells(t, row(submitted(1), granted(1, -1)), fault(api.RuleRise, 1))
	tells(t, row(submitted(1), granted(1, 1)))
	// Of a job that is not known, or does not stand so; it is held under the new badge then, with no result and no log.
	tells(t, row(granted(1, 3), granted(8, 4)), fault(api.RuleHold, 0), fault(api.RuleHold, 1))
	stands(t, row(granted(1, 3)))
	tells(t, behind(two, granted(3, 1), granted(1, 2)), fault(api.RuleHold, 2))
	tells(t, behind(two, granted(3, 1), granted(1, 1)), fault(api.RuleHold, 2), rise)
	held := standing{api.Held, 9, zero, nil}
	for _, next := range [][]api.Event{{}, {recorded(1, 3, seven)}, {lost(1, 3)}} {
		l := behind(attempts(), next...)
		tells(t, behind(l, granted(1, 9)), fault(api.RuleHold, len(l)))
		stands(t, behind(l, granted(1, 9)), held)
	}
	tells(t, behind(attempts(), expired(1, 3), granted(1, 9)))
	stands(t, behind(attempts(), expired(1, 3), granted(1, 9)), held)
	// A badge that was shown counts as well.
	l := row(submitted(1), up(), shown(1, 5, api.Held, zero), expired(1, 5))
	tells(t, behind(l, granted(1, 5)), fault(api.RuleRise, 4))
	tells(t, behind(l, granted(1, 6)))
	// A lesser one that was shown does not bring the greatest down.
	l = row(submitted(1), submitted(2), granted(1, 3), granted(2, 7), up(), shown(1, 3, api.Held, zero), shown(2, 7, api.Held, zero), shown(2, 2, api.Queued, zero), expired(1, 3))
	tells(t, behind(l, granted(1, 7)), fault(api.RuleKeep, 7), fault(api.RuleRise, 9))
	tells(t, behind(l, granted(1, 8)), fault(api.RuleKeep, 7))
	// That of a job that can't come next yet does not count: nothing is known by it.
	tells(t, row(up(), shown(2, 9, api.Held, zero), submitted(1), granted(1, 3)), fault(api.RuleKeep, 1))
}

// unheld are histories of which none holds the job 1 under the badge 3, with what is known behind them.
func unheld() []struct {
	l    []api.Event
	jobs []standing
} {
	return []struct {
		l    []api.Event
		jobs []standing
	}{
		{row(), nil},
		{row(emitted(1, 3, 0, "a"), emitted(1, 3, 1, "b")), nil},
		{row(submitted(1)), []standing{{status: api.Queued}}},
		{row(submitted(1), granted(1, 2)), []standing{{api.Held, 2, zero, nil}}},
		{row(submitted(1), granted(1, 4)), []standing{{api.Held, 4, zero, nil}}},
		{row(submitted(1), submitted(2), granted(2, 3)), []standing{{status: api.Queued}, {api.Held, 3, zero, nil}}},
		{behind(attempts(), expired(1, 3)), []standing{{api.Queued, 3, zero, ab}}},
		{behind(attempts(), expired(1, 3), granted(1, 4)), []standing{{api.Held, 4, zero, nil}}},
	}
}

// settledOnes are likewise; the job 1 is Recorded, or Lost.
func settledOnes() []struct {
	l    []api.Event
	jobs []standing
} {
	return []struct {
		l    []api.Event
		jobs []standing
	}{
		{behind(attempts(), recorded(1, 3, seven)), []standing{{api.Recorded, 3, seven, ab}}},
		{behind(attempts(), lost(1, 3)), []standing{{api.Lost, 3, zero, ab}}},
		{behind(attempts(), up(), shown(1, 3, api.Recorded, seven, "a", "b")), []standing{{api.Recorded, 3, seven, ab}}},
		{behind(attempts(), up(), shown(1, 3, api.Lost, zero, "a", "b")), []standing{{api.Lost, 3, zero, ab}}},
	}
}

// What is stored goes on where the log ends, and was emitted under that badge; it stands behind the log, whatever it is.
func TestP21_2Stored(t *testing.T) {
	began := row(submitted(1), granted(1, 3), emitted(1, 3, 0, "a"), emitted(1, 3, 1, "b"), emitted(1, 3, 2, ""), emitted(1, 4, 3, "d"), emitted(1, 3, 4, "e"))
	n := len(began)
	wrong := fault(api.RulePrefix, n)
	for _, c := range []struct {
		v   api.Event
		bad bool
	}{
		{stored(1, 3, 0), false}, {stored(1, 3, 0, "a"), false}, {stored(1, 3, 0, "a", "b"), false}, {stored(1, 3, 0, "a", "b", ""), false},
		{stored(1, 3, 1), true}, {stored(1, 3, 1, "b"), true}, {stored(1, 3, 0, "b"), true}, {stored(1, 3, 0, ""), true}, {stored(1, 3, 0, "a", "a"), true},
		{stored(1, 3, 0, "b", "a"), true}, {stored(1, 3, 0, "a", "b", "", ""), true}, {stored(1, 3, 0, "a", "b", "", "d"), true}, {stored(1, 3, 0, "a", "b", "", "d", "e"), true},
		{stored(1, 3, 1<<40), true}, {stored(1, 3, 1<<40, "a"), true}, {stored(1, 3, 4, "e"), true}, {stored(1, 3, 0, "a\x00"), true},
	} {
		l := behind(began, c.v)
		if c.bad {
			tells(t, l, wrong)
		} else {
			tells(t, l)
		}
		stands(t, l, standing{api.Held, 3, zero, c.v.Texts})
	}
	// One behind the other: each goes on where the one ahead of it came to, be that right or not.
	l := behind(began, stored(1, 3, 0, "a"))
	tells(t, behind(l, stored(1, 3, 1, "b", "")))
	tells(t, behind(l, stored(1, 3, 1, "b"), stored(1, 3, 2)))
	stands(t, behind(l, stored(1, 3, 1, "b", "")), standing{api.Held, 3, zero, []string{"a", "b", ""}})
	tells(t, behind(l, stored(1, 3, 0, "a")), fault(api.RulePrefix, n+1))
	stands(t, behind(l, stored(1, 3, 0, "a")), standing{api.Held, 3, zero, []string{"a", "a"}})
	tells(t, behind(l, stored(1, 3, 0, "x"), stored(1, 3, 2, "")), fault(api.RulePrefix, n+1))
	tells(t, behind(l, stored(1, 3, 0, "x"), stored(1, 3, 1, "b")), fault(api.RulePrefix, n+1), fault(api.RulePrefix, n+2))
	// What is emitted behind it does not count, nor does another badge's.
	tells(t, row(submitted(1), granted(1, 3), stored(1, 3, 0, "a"), emitted(1, 3, 0, "a")), fault(api.RulePrefix, 2))
	tells(t, row(submitted(1), granted(1, 3), emitted(1, 2, 0, "a"), emitted(1, 4, 0, "a"), stored(1, 3, 0, "a")), fault(api.RulePrefix, 4))
	// What is written is no chunk, and neither is a text that nobody emitted.
	tells(t, row(submitted(1), granted(1, 3), wrote(1, 3, 0, "a"), stored(1, 3, 0, "a")), fault(api.RulePrefix, 3))
	tells(t, row(submitted(1), granted(1, 3), stored(1, 3, 0, "")), fault(api.RulePrefix, 2))
	tells(t, row(submitted(1), granted(1, 3), emitted(1, 3, 0, ""), stored(1, 3, 0, "")))
	for _, c := range append(unheld(), settledOnes()...) {
		for _, v := range []api.Event{stored(1, 3, 0, "a"), stored(1, 3, 2), stored(1, 3, 0), stored(1, 3, 0, "x")} {
			tells(t, behind(c.l, v), fault(api.RuleHold, len(c.l)))
			stands(t, behind(c.l, v), c.jobs...)
		}
	}
}

// Of each badge and index the first text counts, whoever emitted it, and of which job.
func TestP21_2Emitted(t *testing.T) {
	began := row(submitted(1), granted(1, 3))
	tells(t, behind(began, emitted(1, 3, 0, "a"), emitted(1, 3, 0, "b"), stored(1, 3, 0, "a")))
	tells(t, behind(began, emitted(1, 3, 0, "a"), emitted(1, 3, 0, "b"), stored(1, 3, 0, "b")), fault(api.RulePrefix, 4))
	tells(t, behind(began, emitted(1, 3, 0, ""), emitted(1, 3, 0, "b"), stored(1, 3, 0, "b")), fault(api.RulePrefix, 4))
	for _, job := range append([]int{0, 2, 8, 9}, far...) {
		tells(t, behind(began, emitted(job, 3, 0, "a"), stored(1, 3, 0, "a")))
		tells(t, behind(began, emitted(job, 3, 0, "b"), emitted(1, 3, 0, "a"), stored(1, 3, 0, "a")), fault(api.RulePrefix, 4))
	}
	v := emitted(1, 3, 0, "a")
	v.Who = api.Addr{Node: 4, Life: 9}
	tells(t, behind(began, v, stored(1, 3, 0, "a")))
	// The last index that may be, and badges of any number.
	tells(t, behind(began, emitted(1, 3, 1<<40, "a"), emitted(1, math.MinInt, 0, "a"), emitted(1, 0, 0, "a")))
	// It is no end, and it holds nothing.
	tells(t, row(emitted(1, 3, 0, "a"), emitted(1, 3, 0, "a"), emitted(9, 3, 7, "")))
	stands(t, behind(attempts(), emitted(1, 3, 2, "c"), emitted(1, 4, 0, "d")), standing{api.Held, 3, zero, ab})
}

// A job's badge that runs out is the one that it is held under.
func TestP21_2Expired(t *testing.T) {
	tells(t, behind(attempts(), expired(1, 3)))
	stands(t, behind(attempts(), expired(1, 3)), standing{api.Queued, 3, zero, ab})
	tells(t, behind(attempts(), expired(1, 3), expired(1, 3)), fault(api.RuleHold, 7))
	for _, b := range append([]int{0, 2, 4}, far...) {
		tells(t, behind(attempts(), expired(1, b)), fault(api.RuleHold, 6))
		stands(t, behind(attempts(), expired(1, b)), standing{api.Held, 3, zero, ab})
	}
	for _, c := range append(unheld(), settledOnes()...) {
		tells(t, behind(c.l, expired(1, 3)), fault(api.RuleHold, len(c.l)))
		stands(t, behind(c.l, expired(1, 3)), c.jobs...)
	}
}

// What is lost is lost once, and was held.
func TestP21_2Lost(t *testing.T) {
	tells(t, behind(attempts(), lost(1, 3)))
	stands(t, behind(attempts(), lost(1, 3)), standing{api.Lost, 3, zero, ab})
	for _, b := range append([]int{0, 2, 4}, far...) {
		tells(t, behind(attempts(), lost(1, b)), fault(api.RuleHold, 6))
		stands(t, behind(attempts(), lost(1, b)), standing{api.Held, 3, zero, ab})
	}
	for _, c := range unheld() {
		tells(t, behind(c.l, lost(1, 3)), fault(api.RuleHold, len(c.l)))
		stands(t, behind(c.l, lost(1, 3)), c.jobs...)
	}
	for _, c := range settledOnes() {
		for _, b := range []int{0, 3, 4} {
			tells(t, behind(c.l, lost(1, b)), fault(api.RuleOnce, len(c.l)))
			stands(t, behind(c.l, lost(1, b)), c.jobs...)
		}
	}
}

// What is recorded is recorded once, and was held; a runner came to that result under that badge, and the log is as long as it was then.
func TestP21_2Recorded(t *testing.T) {
	tells(t, behind(attempts(), recorded(1, 3, seven)))
	stands(t, behind(attempts(), recorded(1, 3, seven)), standing{api.Recorded, 3, seven, ab})
	real, whole, hold := fault(api.RuleReal, 6), fault(api.RuleWhole, 6), fault(api.RuleHold, 6)
	for _, r := range []api.Result{zero, trap, {Bits: 8}, {Code: 1, Bits: 7}} {
		tells(t, behind(attempts(), recorded(1, 3, r)), real)
		stands(t, behind(attempts(), recorded(1, 3, r)), standing{api.Recorded, 3, r, ab})
	}
	for _, b := range append([]int{0, 2, 4}, far...) {
		tells(t, behind(attempts(), recorded(1, b, seven)), real, hold, whole)
		stands(t, behind(attempts(), recorded(1, b, seven)), standing{api.Held, 3, zero, ab})
	}
	// Another badge, or another job, with an end of its own.
	tells(t, behind(attempts(), ended(1, 4, 2, seven), recorded(1, 4, seven)), fault(api.RuleHold, 7))
	tells(t, behind(attempts(), ended(1, 4, 1, seven), recorded(1, 4, seven)), fault(api.RuleHold, 7), fault(api.RuleWhole, 7))
	tells(t, behind(attempts(), submitted(2), recorded(2, 3, seven)), fault(api.RuleReal, 7), fault(api.RuleHold, 7), fault(api.RuleWhole, 7))
	// A job that is not known has no log that could be whole.
	tells(t, behind(attempts(), recorded(2, 3, seven)), real, hold)
	tells(t, row(ended(1, 3, 0, seven), recorded(1, 3, seven)), fault(api.RuleHold, 1))
	for _, c := range unheld() {
		l := behind(c.l, ended(1, 3, 0, seven), ended(1, 3, 2, seven), ended(1, 3, 0, zero))
		tells(t, behind(l, recorded(1, 3, seven)), fault(api.RuleHold, len(l)))
		stands(t, behind(l, recorded(1, 3, seven)), c.jobs...)
	}
	for _, c := range settledOnes() {
		n := len(c.l)
		tells(t, behind(c.l, recorded(1, 3, seven)), fault(api.RuleOnce, n))
		tells(t, behind(c.l, recorded(1, 3, trap)), fault(api.RuleOnce, n), fault(api.RuleReal, n))
		tells(t, behind(c.l, recorded(1, 4, seven)), fault(api.RuleOnce, n), fault(api.RuleReal, n), fault(api.RuleWhole, n))
		stands(t, behind(c.l, recorded(1, 3, trap)), c.jobs...)
		stands(t, behind(c.l, recorded(1, 4, seven)), c.jobs...)
	}
}

// Ends: each that stands ahead counts, for its own job and badge; one for the result, and be it another for the length.
func TestP21_2Ended(t *testing.T) {
	held := row(submitted(1), granted(1, 3), emitted(1, 3, 0, "a"), stored(1, 3, 0, "a"))
	for _, c := range []struct {
		ends []api.Event
		want []int
	}{
		{row(), []int{api.RuleReal, api.RuleWhole}},
		{row(ended(1, 3, 1, seven)), nil},
		{row(ended(1, 3, 0, seven)), []int{api.RuleWhole}},
		{row(ended(1, 3, 2, seven)), []int{api.RuleWhole}},
		{row(ended(1, 3, -1, seven)), []int{api.RuleWhole}},
		{row(ended(1, 3, 1<<32+1, seven)), []int{api.RuleWhole}},
		{row(ended(1, 3, 1, zero)), []int{api.RuleReal}},
		{row(ended(1, 3, 1, api.Result{Code: 1, Bits: 7})), []int{api.RuleReal}},
		{row(ended(1, 2, 1, seven)), []int{api.RuleReal, api.RuleWhole}},
		{row(ended(2, 3, 1, seven)), []int{api.RuleReal, api.RuleWhole}},
		{row(ended(0, 3, 1, seven), ended(9, 3, 1, seven)), []int{api.RuleReal, api.RuleWhole}},
		{row(ended(1, 3, 1, zero), ended(1, 3, 0, seven)), nil},
		{row(ended(1, 3, 1, seven), ended(1, 3, 5, trap)), nil},
		{row(ended(1, 3, 5, trap), ended(1, 3, 1, seven), ended(1, 3, 1, seven)), nil},
	} {
		l := behind(held, c.ends...)
		var want []api.Fault
		for _, rule := range c.want {
			want = append(want, fault(rule, len(l)))
		}
		tells(t, behind(l, recorded(1, 3, seven)), want...)
		// Those that stand behind it do not count.
		tells(t, behind(held, behind(row(recorded(1, 3, seven)), c.ends...)...), fault(api.RuleReal, 4), fault(api.RuleWhole, 4))
		// A coordinator that is started shows it so: the same is asked.
		want = nil
		for _, rule := range c.want {
			want = append(want, fault(rule, len(l)+1))
		}
		tells(t, behind(l, up(), shown(1, 3, api.Recorded, seven, "a")), want...)
	}
	// The length is that of the log as it is known, whatever was stored under the badge of before.
	l := row(submitted(1), granted(1, 2), emitted(1, 2, 0, "a"), stored(1, 2, 0, "a"), expired(1, 2), granted(1, 3))
	tells(t, behind(l, ended(1, 3, 0, seven), recorded(1, 3, seven)))
	tells(t, behind(l, ended(1, 3, 1, seven), recorded(1, 3, seven)), fault(api.RuleWhole, 7))
	stands(t, behind(attempts(), ended(1, 3, 7, trap)), standing{api.Held, 3, zero, ab})
}

// The sink admits of a job the claim of a badge that does not fall, and then that badge's pieces, in their order.
func TestP21_2Admitted(t *testing.T) {
	written := row(wrote(1, 3, 1, "p"), wrote(1, 3, 2, "q"), wrote(1, 3, 3, ""), wrote(1, 4, 1, "r"), wrote(1, 3, 0, "c"), wrote(1, 2, 1, "p"))
	n := len(written)
	claim := behind(written, admitted(1, 3, 0, ""))
	for _, c := range []struct {
		v   api.Event
		bad bool
	}{
		{admitted(1, 3, 1, "p"), false}, {admitted(1, 3, 0, ""), true}, {admitted(1, 3, 2, "q"), true}, {admitted(1, 3, 1, ""), true}, {admitted(1, 3, 1, "q"), true}, {admitted(1, 3, 1, "r"), true},
		{admitted(1, 4, 0, ""), false}, {admitted(1, 4, 1, "r"), true}, {admitted(1, 4, 0, "r"), true}, {admitted(1, 4, 2, ""), true},
		{admitted(1, 2, 0, ""), true}, {admitted(1, 2, 1, "p"), true}, {admitted(1, 0, 0, ""), true}, {admitted(1, -1, 0, ""), true}, {admitted(1, math.MinInt, 0, ""), true}, {admitted(1, math.MaxInt, 0, ""), false},
		{admitted(2, 2, 0, ""), false}, {admitted(2, 3, 0, ""), false}, {admitted(2, 3, 1, "p"), true}, {admitted(8, 1, 0, ""), false}, {admitted(1, 3, 1<<40, "p"), true},
	} {
		if c.bad {
			tells(t, behind(claim, c.v), fault(api.RuleAdmit, n+1))
		} else {
			tells(t, behind(claim, c.v))
		}
	}
	tells(t, behind(claim, admitted(1, 3, 1, "p"), admitted(1, 3, 2, "q"), admitted(1, 3, 3, ""), admitted(1, 4, 0, ""), admitted(1, 4, 1, "r"), admitted(1, 5, 0, "")))
	tells(t, behind(claim, admitted(1, 3, 1, "p"), admitted(1, 3, 1, "p")), fault(api.RuleAdmit, n+2))
	// The claim of none is empty, though one were written there.
	tells(t, behind(written, admitted(1, 3, 0, "c")), fault(api.RuleAdmit, n))
	// A piece that nobody wrote, not even an empty one; and what was written behind it, or first emitted, is none.
	tells(t, row(admitted(1, 3, 0, ""), admitted(1, 3, 1, "")), fault(api.RuleAdmit, 1))
	tells(t, row(admitted(1, 3, 0, ""), admitted(1, 3, 1, "p"), wrote(1, 3, 1, "p")), fault(api.RuleAdmit, 1))
	tells(t, row(emitted(1, 3, 1, "p"), admitted(1, 3, 0, ""), admitted(1, 3, 1, "p")), fault(api.RuleAdmit, 2))
	// Without a badge: as many as came under it are asked.
	tells(t, row(wrote(1, 0, 1, "p"), admitted(1, 0, 0, ""), admitted(1, 0, 1, "p")))
	tells(t, row(wrote(1, 0, 1, "p"), admitted(1, 0, 1, "p")), fault(api.RuleAdmit, 1))
	// It hangs on no job that is known, and on no badge that was granted.
	tells(t, row(submitted(1), granted(1, 9), admitted(1, 3, 0, ""), admitted(7, 3, 0, "")))
	stands(t, behind(attempts(), admitted(1, 3, 0, ""), admitted(1, 9, 0, "")), standing{api.Held, 3, zero, ab})
	tells(t, behind(attempts(), admitted(1, 9, 0, ""), submitted(2), granted(2, 4)))
}

// What counts as admitted behind one that breaks the rule: all but one of a lesser badge.
func TestP21_2AdmittedBehind(t *testing.T) {
	written := row(wrote(1, 3, 1, "p"), wrote(1, 3, 2, "q"), wrote(1, 5, 1, "r"), wrote(1, 5, 5, "s"), wrote(1, 5, 6, "s"))
	at := func(n int) api.Fault { return fault(api.RuleAdmit, 5+n) }
	tells(t, behind(written, admitted(1, 3, 1, "p"), admitted(1, 3, 2, "q")), at(0))
	tells(t, behind(written, admitted(1, 3, 1, "x"), admitted(1, 3, 2, "q")), at(0))
	tells(t, behind(written, admitted(1, 3, 1, "p"), admitted(1, 3, 0, ""), admitted(1, 3, 1, "p")), at(0), at(1))
	tells(t, behind(written, admitted(1, 3, 0, "x"), admitted(1, 3, 1, "p")), at(0))
	tells(t, behind(written, admitted(1, 5, 5, "s"), admitted(1, 5, 6, "s")), at(0))
	tells(t, behind(written, admitted(1, 5, 5, "s"), admitted(1, 5, 1, "r")), at(0), at(1))
	tells(t, behind(written, admitted(1, 5, 0, ""), admitted(1, 3, 0, ""), admitted(1, 5, 1, "r")), at(1))
	tells(t, behind(written, admitted(1, 5, 0, ""), admitted(1, 3, 1, "p"), admitted(1, 3, 2, "q")), at(1), at(2))
	tells(t, row(admitted(1, 3, 1<<40, ""), admitted(1, 3, 1<<40, "")), fault(api.RuleAdmit, 0), fault(api.RuleAdmit, 1))
}

// Of each badge and index the first piece counts, whoever wrote it, and of which job.
func TestP21_2Wrote(t *testing.T) {
	tells(t, row(wrote(1, 3, 1, "p"), wrote(1, 3, 1, "q"), admitted(1, 3, 0, ""), admitted(1, 3, 1, "p")))
	tells(t, row(wrote(1, 3, 1, "p"), wrote(1, 3, 1, "q"), admitted(1, 3, 0, ""), admitted(1, 3, 1, "q")), fault(api.RuleAdmit, 3))
	tells(t, row(wrote(1, 3, 1, ""), wrote(1, 3, 1, "q"), admitted(1, 3, 0, ""), admitted(1, 3, 1, "q")), fault(api.RuleAdmit, 3))
	for _, job := range append([]int{0, 2, 8, 9}, far...) {
		tells(t, row(wrote(job, 3, 1, "p"), admitted(1, 3, 0, ""), admitted(1, 3, 1, "p")))
		tells(t, row(wrote(job, 3, 1, "q"), wrote(1, 3, 1, "p"), admitted(1, 3, 0, ""), admitted(1, 3, 1, "p")), fault(api.RuleAdmit, 3))
	}
	tells(t, row(wrote(1, 3, 0, "x"), wrote(1, 3, 1<<40, "y"), wrote(9, -7, 5, "z")))
	stands(t, behind(attempts(), wrote(1, 3, 1, "p")), standing{api.Held, 3, zero, ab})
}

// Those of other kinds break nothing, and make nothing known.
func TestP21_2Others(t *testing.T) {
	l := row(refused(), down(), upOf(2, 1), upOf(2, 7), upOf(1, 0), upOf(0, 1), api.Event{Kind: api.EvDown, Who: api.Addr{Node: 2, Life: 1}, Job: 1, Badge: 99})
	tells(t, l)
	tells(t, behind(l, l...))
	for i := range l {
		stands(t, l[:i+1])
		stands(t, behind(attempts(), l[:i+1]...), standing{api.Held, 3, zero, ab})
		tells(t, behind(l[:i+1], submitted(1), granted(1, 1)))
	}
}
