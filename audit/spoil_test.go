package audit_test

import (
	"math/rand"
	"slices"
	"testing"

	"gaffer/api"
	"gaffer/audit"
)

// change makes one event of a history another one, or takes one out, or puts one in, at a place; false: there is nothing of that kind there.
type change func(l []api.Event, at int) ([]api.Event, bool)

// edits changes an event of a kind.
func edits(kind int, edit func(*api.Event)) change {
	return func(l []api.Event, at int) ([]api.Event, bool) {
		if l[at].Kind != kind {
			return nil, false
		}
		l = slices.Clone(l)
		l[at].Texts = slices.Clone(l[at].Texts)
		edit(&l[at])
		return l, true
	}
}

func doubles(kind int) change {
	return func(l []api.Event, at int) ([]api.Event, bool) {
		if l[at].Kind != kind {
			return nil, false
		}
		return slices.Insert(slices.Clone(l), at, l[at]), true
	}
}

func takesOut(kind int) change {
	return func(l []api.Event, at int) ([]api.Event, bool) {
		if l[at].Kind != kind {
			return nil, false
		}
		return slices.Delete(slices.Clone(l), at, at+1), true
	}
}

// here holds that the first fault is of this rule, at the changed event, or right behind it.
func here(rule, more int) func(t *testing.T, l []api.Event, at int, f api.Fault, any bool) bool {
	return func(t *testing.T, l []api.Event, at int, f api.Fault, any bool) bool {
		t.Helper()
		if !any || f != fault(rule, at+more) {
			t.Fatalf("%+v, changed at %d: %+v, %v, not the rule %d there", l, at, f, any, rule)
		}
		return true
	}
}

// later holds that, if there is a fault at all, none is ahead of the changed event; whether there is one.
func later(t *testing.T, l []api.Event, at int, f api.Fault, any bool) bool {
	t.Helper()
	if any && f.At < at {
		t.Fatalf("%+v, changed at %d: %+v", l, at, f)
	}
	return any
}

// atOnce holds that there is a fault, and the first one is of the changed event.
func atOnce(t *testing.T, l []api.Event, at int, f api.Fault, any bool) bool {
	t.Helper()
	if !any || f.At != at {
		t.Fatalf("%+v, changed at %d: %+v, %v", l, at, f, any)
	}
	return true
}

// What a fleet told is changed in one event: the audit tells it, at that event, by the rule that it is of.
func TestP21_2Spoilt(t *testing.T) {
	cases := []struct {
		name  string
		of    change
		tells func(t *testing.T, l []api.Event, at int, f api.Fault, any bool) bool
		least int
	}{
		{"a result put in twice", doubles(api.EvRecorded), here(api.RuleOnce, 1), 100},
		{"a loss put in twice", doubles(api.EvLost), here(api.RuleOnce, 1), 20},
		{"an expiry put in twice", doubles(api.EvExpired), here(api.RuleHold, 1), 100},
		{"a grant put in twice", doubles(api.EvGranted), here(api.RuleRise, 1), 100},
		{"a submission put in twice", doubles(api.EvSubmitted), here(api.RuleKeep, 1), 100},
		{"an admission put in twice", doubles(api.EvAdmitted), here(api.RuleAdmit, 1), 100},
		{"a job shown twice", doubles(api.EvShown), here(api.RuleKeep, 1), 100},
		{"another result", edits(api.EvRecorded, func(v *api.Event) { v.Result.Bits++ }), here(api.RuleReal, 0), 100},
		{"another badge's result", edits(api.EvRecorded, func(v *api.Event) { v.Badge++ }), here(api.RuleReal, 0), 100},
		{"a lesser badge", edits(api.EvGranted, func(v *api.Event) { v.Badge = 0 }), here(api.RuleRise, 0), 100},
		{"another badge's loss", edits(api.EvLost, func(v *api.Event) { v.Badge++ }), here(api.RuleHold, 0), 20},
		{"another badge's expiry", edits(api.EvExpired, func(v *api.Event) { v.Badge++ }), here(api.RuleHold, 0), 100},
		{"another badge's log", edits(api.EvStored, func(v *api.Event) { v.Badge-- }), here(api.RuleHold, 0), 100},
		{"a log elsewhere", edits(api.EvStored, func(v *api.Event) { v.Index++ }), here(api.RulePrefix, 0), 100},
		{"another text in a log", edits(api.EvStored, func(v *api.Event) { v.Texts[0] += "x" }), here(api.RulePrefix, 0), 100},
		{"a text more in a log", edits(api.EvStored, func(v *api.Event) { v.Texts = append(v.Texts, "x") }), here(api.RulePrefix, 0), 100},
		{"another text of a piece", edits(api.EvAdmitted, func(v *api.Event) { v.Text += "x" }), here(api.RuleAdmit, 0), 100},
		{"a piece elsewhere", edits(api.EvAdmitted, func(v *api.Event) { v.Index++ }), here(api.RuleAdmit, 0), 100},
		{"a job shown with another result", edits(api.EvShown, func(v *api.Event) { v.Result.Bits++ }), atOnce, 100},
		{"a job shown under another badge", edits(api.EvShown, func(v *api.Event) { v.Badge-- }), later, 100},
		{"a submission taken out", takesOut(api.EvSubmitted), later, 100},
		{"a grant taken out", takesOut(api.EvGranted), later, 100},
		{"a chunk taken out", takesOut(api.EvEmitted), later, 100},
		{"a piece taken out", takesOut(api.EvWrote), later, 100},
		{"an end taken out", takesOut(api.EvEnded), later, 100},
		{"a part of a log taken out", takesOut(api.EvStored), later, 100},
		{"a job not shown", takesOut(api.EvShown), later, 100},
		{"an admission taken out", takesOut(api.EvAdmitted), later, 100},
	}
	seen := make([]int, len(cases))
	for seed := range int64(100) {
		rnd := newRand(seed)
		a := walked(t, rnd, 250)
		for i, c := range cases {
			changed := 0
			for _, at := range rnd.Perm(len(a.l)) {
				l, is := c.of(a.l, at)
				if !is {
					continue
				}
				if changed++; changed > 4 {
					break
				}
				f, any, e := audit.First(l)
				if e != api.OK {
					t.Fatalf("%s: %v", c.name, e)
				}
				if c.tells(t, l, at, f, any) {
					seen[i]++
				}
			}
		}
	}
	for i, c := range cases {
		if seen[i] < c.least {
			t.Errorf("%s: seen just %d times", c.name, seen[i])
		}
	}
}

// anyChange makes a history another one, in some place.
func anyChange(rnd *rand.Rand, l []api.Event) []api.Event {
	l = slices.Clone(l)
	at, to := rnd.Intn(len(l)), rnd.Intn(len(l))
	if rnd.Intn(2) == 0 {
		to = min(len(l)-1, at+rnd.Intn(4))
	}
	v := l[at]
	switch rnd.Intn(10) {
	case 0:
		return slices.Delete(l, at, at+1)
	case 1:
		return slices.Insert(l, to, v)
	case 2:
		l[at], l[to] = l[to], l[at]
		return l
	case 3:
		v.Job = 1 + rnd.Intn(8)
	case 4:
		v.Badge += rnd.Intn(5) - 2
	case 5:
		v.Index = max(0, v.Index+rnd.Intn(3)-1)
		v.Count += rnd.Intn(3) - 1
	case 6:
		v.Status = rnd.Intn(6)
	case 7:
		v.Result = []api.Result{zero, seven, trap}[rnd.Intn(3)]
	case 8:
		v.Text = []string{"", "1p0", "x"}[rnd.Intn(3)]
		if n := len(v.Texts); n > 0 {
			v.Texts = v.Texts[:rnd.Intn(n)]
		}
	case 9:
		v.Kind = 1 + rnd.Intn(14)
		v.Job = max(1, v.Job)
	}
	l[at] = v
	return l
}

// What a fleet told with some changes in it, against the words, and so are beginnings of it.
func TestP21_2Changed(t *testing.T) {
	told, none := map[int]int{}, 0
	for seed := range int64(300) {
		rnd := newRand(seed)
		a := walked(t, rnd, 150)
		if len(a.l) > 900 {
			a.l = a.l[:900]
		}
		for range 8 {
			l := a.l
			for range 1 + rnd.Intn(3) {
				l = anyChange(rnd, l)
			}
			all := asks(t, l)
			if len(all) == 0 {
				none++
				sound(t, l)
			}
			rules := map[int]bool{}
			for _, f := range all {
				rules[f.Rule] = true
			}
			for rule := range rules {
				told[rule]++
			}
			n := rnd.Intn(len(l))
			at, _ := slices.BinarySearchFunc(all, n, func(f api.Fault, n int) int { return f.At - n })
			if got := asks(t, l[:n]); !slices.Equal(got, all[:at]) {
				t.Fatalf("of the first %d of %+v: %+v, not %+v", n, l, got, all[:at])
			}
		}
	}
	for rule := api.RuleOnce; rule <= api.RuleKeep; rule++ {
		if told[rule] < 10 {
			t.Errorf("the rule %d was broken in just %d histories", rule, told[rule])
		}
	}
	if none < 50 {
		t.Errorf("just %d histories without a fault", none)
	}
}
