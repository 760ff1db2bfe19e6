package audit_test

import (
	"math/rand"
	"slices"
	"testing"

	"gaffer/api"
	"gaffer/audit"
)

func newRand(seed int64) *rand.Rand { return rand.New(rand.NewSource(seed)) }

// alphabet is events of two jobs and few badges of which short histories are made that come to all rules.
func alphabet() []api.Event {
	return row(
		submitted(1), submitted(2), granted(1, 1), granted(1, 2), granted(2, 2), granted(1, 3),
		emitted(1, 1, 0, "a"), emitted(1, 2, 0, "a"), stored(1, 1, 0, "a"), stored(1, 2, 0, "a"), stored(1, 1, 0),
		ended(1, 1, 0, seven), ended(1, 1, 1, seven), ended(1, 2, 0, trap), ended(2, 2, 0, seven),
		expired(1, 1), expired(1, 2), lost(1, 1), lost(1, 2), recorded(1, 1, seven), recorded(1, 2, trap), recorded(2, 2, seven),
		up(), refused(),
		shown(1, 0, api.Queued, zero), shown(1, 1, api.Queued, zero), shown(1, 1, api.Held, zero), shown(1, 1, api.Held, zero, "a"), shown(1, 2, api.Held, zero),
		shown(1, 1, api.Recorded, seven), shown(1, 1, api.Recorded, seven, "a"), shown(1, 1, api.Lost, zero), shown(2, 0, api.Queued, zero), shown(2, 2, api.Held, zero),
		wrote(1, 1, 1, "p"), admitted(1, 1, 0, ""), admitted(1, 1, 1, "p"), admitted(1, 2, 0, ""),
	)
}

// All short histories of these events: what All says of them, and of each beginning.
func TestP21_4Short(t *testing.T) {
	t.Parallel()
	events := alphabet()
	told := map[int]int{}
	var goOn func(l []api.Event, w *words, all []api.Fault)
	goOn = func(l []api.Event, w *words, all []api.Fault) {
		for _, v := range events {
			next, told2 := append(l, v), all
			w := w.clone()
			for _, rule := range w.takes(v) {
				told2 = append(told2[:len(told2):len(told2)], fault(rule, len(l)))
				told[rule]++
			}
			if got, e := audit.All(next); e != api.OK || !slices.Equal(got, told2) {
				t.Fatalf("All(%+v): %+v, %v, not %+v", next, got, e, told2)
			}
			if len(next) < 4 {
				goOn(next, w, told2)
			}
		}
	}
	goOn(nil, begins(), nil)
	for rule := api.RuleOnce; rule <= api.RuleKeep; rule++ {
		if told[rule] < 100 {
			t.Errorf("the rule %d was broken just %d times", rule, told[rule])
		}
	}
}

// sound is what follows where no rule is broken (P21.6), looked at in the events alone.
func sound(t *testing.T, l []api.Event) {
	t.Helper()
	var recordings, losses [api.MaxJobs + 1]int
	granted := 0
	for at, v := range l {
		switch v.Kind {
		case api.EvGranted:
			if v.Badge <= granted {
				t.Fatalf("%+v: no fault, and a badge behind %d", l, granted)
			}
			granted = v.Badge
		case api.EvRecorded:
			recordings[v.Job]++
			came(t, l, at)
		case api.EvLost:
			losses[v.Job]++
		case api.EvShown:
			if v.Status == api.Recorded {
				came(t, l, at)
			}
		}
	}
	for k := range recordings {
		if recordings[k] > 1 || recordings[k] == 1 && losses[k] > 0 || losses[k] > 1 {
			t.Fatalf("%+v: no fault, and the job %d is recorded %d times, and lost %d times", l, k, recordings[k], losses[k])
		}
	}
}

// came holds that a result was one of an end under that badge.
func came(t *testing.T, l []api.Event, at int) {
	t.Helper()
	v := l[at]
	if !slices.ContainsFunc(l[:at], func(o api.Event) bool {
		return o.Kind == api.EvEnded && o.Job == v.Job && o.Badge == v.Badge && o.Result == v.Result
	}) {
		t.Fatalf("%+v: no fault, and %+v is of no end", l, v)
	}
}

// All histories without a fault of few events, each of which changes something, and each event behind them.
func TestP21_6Short(t *testing.T) {
	events := row(
		submitted(1), granted(1, 1), granted(1, 2), emitted(1, 1, 0, "a"), stored(1, 1, 0, "a"), ended(1, 1, 0, seven), ended(1, 1, 1, trap), ended(1, 2, 0, seven),
		expired(1, 1), lost(1, 1), recorded(1, 1, seven), recorded(1, 1, trap), recorded(1, 2, seven), lost(1, 2), up(),
		shown(1, 1, api.Queued, zero), shown(1, 1, api.Held, zero, "a"), shown(1, 2, api.Held, zero), shown(1, 1, api.Recorded, seven), shown(1, 1, api.Recorded, trap, "a"), shown(1, 1, api.Lost, zero), refused(),
	)
	told, whole, ends := map[int]int{}, 0, 0
	var goOn func(l []api.Event, w *words)
	goOn = func(l []api.Event, w *words) {
		for i, v := range events {
			if useless(l, v) {
				continue
			}
			next, w := append(l, v), w.clone()
			rules := w.takes(v)
			got, e := audit.All(next)
			if e != api.OK || !slices.EqualFunc(got, rules, func(f api.Fault, rule int) bool { return f == fault(rule, len(l)) }) {
				t.Fatalf("All(%+v): %+v, %v, not %v", next, got, e, rules)
			}
			for _, rule := range rules {
				told[rule]++
			}
			if len(rules) > 0 {
				continue
			}
			whole++
			if sound(t, next); v.Kind == api.EvRecorded {
				ends++
			}
			if len(next) < 7 && i != len(events)-1 {
				goOn(next, w)
			}
		}
	}
	goOn(nil, begins())
	for rule := api.RuleOnce; rule <= api.RuleKeep; rule++ {
		if told[rule] < 10 && rule != api.RuleAdmit {
			t.Errorf("the rule %d was broken just %d times", rule, told[rule])
		}
	}
	if whole < 50000 || ends < 3000 {
		t.Errorf("just %d histories without a fault, %d of which end recorded", whole, ends)
	}
}

// useless: what says nothing that was not said by the same event ahead of it.
func useless(l []api.Event, v api.Event) bool {
	switch v.Kind {
	case api.EvEmitted, api.EvEnded:
		return slices.ContainsFunc(l, func(o api.Event) bool {
			return o.Kind == v.Kind && o.Badge == v.Badge && o.Count == v.Count && o.Result == v.Result
		})
	}
	return false
}
