package audit_test

import (
	"slices"
	"testing"

	"gaffer/api"
)

// ways are histories behind which the job 1 stands in each of the ways in which it can be known, or is not; the greatest badge is 5 in all of them, but for the first, where there is none.
func ways() []struct {
	l []api.Event
	j standing
} {
	made := row(emitted(1, 3, 0, "a"), emitted(1, 3, 1, "b"), emitted(1, 3, 2, "c"), ended(1, 3, 2, seven), emitted(1, 9, 0, "a"), emitted(1, 0, 0, "a"))
	began := behind(made, submitted(1), granted(1, 3))
	others := row(submitted(2), granted(2, 5))
	top := func(l ...api.Event) []api.Event { return slices.Concat(began, l, others) }
	return []struct {
		l []api.Event
		j standing
	}{
		{made, standing{}},
		{behind(made, submitted(1), submitted(2), granted(2, 5)), standing{api.Queued, 0, zero, nil}},
		{top(expired(1, 3)), standing{api.Queued, 3, zero, nil}},
		{top(stored(1, 3, 0, "a", "b"), expired(1, 3)), standing{api.Queued, 3, zero, ab}},
		{top(), standing{api.Held, 3, zero, nil}},
		{top(stored(1, 3, 0, "a", "b")), standing{api.Held, 3, zero, ab}},
		{top(stored(1, 3, 0, "a", "b"), recorded(1, 3, seven)), standing{api.Recorded, 3, seven, ab}},
		{top(stored(1, 3, 0, "a", "b"), lost(1, 3)), standing{api.Lost, 3, zero, ab}},
	}
}

// logs, badges and results with which a job is shown.
func logs() [][]string {
	return [][]string{nil, {"a"}, {"a", "b"}, {"a", "b", "c"}, {"b"}, {"a", "x"}, {"a", "b", "x"}, {""}}
}

var (
	badges  = []int{-1, 0, 2, 3, 4, 5, 6, 9}
	results = []api.Result{zero, seven, trap}
)

// showable are those of all events above that may show a job which is known so.
func showable(k int, known bool, j standing, top int) []api.Event {
	if !known {
		return row(shown(k, 0, api.Queued, zero))
	}
	out := row(shown(k, j.badge, j.status, j.result, j.log...))
	switch j.status {
	case api.Held:
		for _, log := range logs() {
			if len(log) >= len(j.log) && slices.Equal(log[:len(j.log)], j.log) {
				out = append(out, shown(k, j.badge, api.Held, j.result, log...))
			}
		}
		out = append(out, shown(k, j.badge, api.Queued, zero, j.log...), shown(k, j.badge, api.Lost, zero, j.log...))
		for _, r := range results {
			out = append(out, shown(k, j.badge, api.Recorded, r, j.log...))
		}
	case api.Queued:
		for _, b := range badges {
			if b > top {
				out = append(out, shown(k, b, api.Held, zero))
			}
		}
	}
	return out
}

func sameEvent(a, b api.Event) bool {
	return a.Kind == b.Kind && a.Job == b.Job && a.Badge == b.Badge && a.Status == b.Status && a.Result == b.Result && slices.Equal(a.Texts, b.Texts)
}

func has(l []api.Event, v api.Event) bool {
	return slices.ContainsFunc(l, func(o api.Event) bool { return sameEvent(o, v) })
}

// Each job that is known, or not, shown in each way: just so many may be.
func TestP21_2ShownWays(t *testing.T) {
	may := 0
	for i, w := range ways() {
		top := 5
		if i == 0 {
			top = 0
		}
		for status := -1; status <= 6; status++ {
			for _, b := range badges {
				for _, r := range results {
					for _, log := range logs() {
						v := shown(1, b, status, r, log...)
						l := behind(w.l, up(), v)
						is := has(showable(1, i > 0, w.j, top), v)
						if is {
							may++
						}
						if got := slices.Contains(asks(t, l), fault(api.RuleKeep, len(l)-1)); got == is {
							t.Fatalf("%+v behind %+v: RuleKeep: %v", v, w.l, got)
						}
						// Where no jobs are being shown none may be.
						for _, ahead := range [][]api.Event{w.l, behind(w.l, up(), refused()), behind(w.l, down()), behind(w.l, upOf(0, 1)), behind(w.l, upOf(2, 0)), behind(w.l, up(), upOf(1, 0))} {
							if l := behind(ahead, v); !slices.Contains(asks(t, l), fault(api.RuleKeep, len(l)-1)) {
								t.Fatalf("%+v behind %+v: no RuleKeep", v, ahead)
							}
						}
					}
				}
			}
		}
	}
	// One not known; Queued ones as they are, or under two greater badges; the Held ones as they are, longer, let go, lost, or with three results; the settled ones as they are.
	if want := 1 + 3*3 + (8 + 2 + 3) + (3 + 2 + 3) + 2; may != want {
		t.Errorf("%d may be shown, not %d", may, want)
	}
}

// The job behind those that are known may be shown, as one whose submission was cut; but one, and in its turn.
func TestP21_2ShownNext(t *testing.T) {
	fresh := func(k int) api.Event { return shown(k, 0, api.Queued, zero) }
	tells(t, row(up(), fresh(1), down(), up(), fresh(1), fresh(2), refused(), up(), fresh(1), fresh(2), fresh(3)))
	tells(t, row(up(), fresh(1), fresh(2), fresh(3), fresh(4), fresh(5), fresh(6), fresh(7), fresh(8)))
	for k := 2; k <= 8; k++ {
		tells(t, row(up(), fresh(k)), fault(api.RuleKeep, 1))
		stands(t, row(up(), fresh(k)))
		tells(t, row(submitted(1), up(), fresh(1), shown(k, 0, api.Queued, zero), fresh(k)), append(slices.Repeat([]api.Fault{fault(api.RuleKeep, 3)}, btoi(k > 2)), fault(api.RuleKeep, 4))...)
	}
	var l []api.Event
	for k := 1; k <= 8; k++ {
		l = append(l, submitted(k))
	}
	l = append(l, up())
	for k := 1; k <= 8; k++ {
		l = append(l, fresh(k))
	}
	tells(t, l)
	for k := 1; k <= 8; k++ {
		tells(t, behind(l, fresh(k)), fault(api.RuleKeep, 17))
	}
	// What it is known as then.
	stands(t, row(up(), fresh(1)), standing{status: api.Queued})
	tells(t, row(up(), fresh(1), granted(1, 3)))
	for _, v := range []api.Event{shown(1, 3, api.Held, zero), shown(1, 0, api.Held, zero), shown(1, 0, api.Lost, zero), shown(1, 3, api.Queued, zero), shown(1, 0, api.Queued, seven), shown(1, 0, 0, zero), shown(1, 0, 9, zero)} {
		tells(t, row(up(), v), fault(api.RuleKeep, 1))
		stands(t, row(up(), v), standing{v.Status, v.Badge, v.Result, nil})
	}
	// A badge that was shown is not granted any more.
	tells(t, row(up(), shown(1, 7, api.Queued, zero), granted(1, 7)), fault(api.RuleKeep, 1), fault(api.RuleRise, 2))
	tells(t, row(up(), shown(1, 7, api.Queued, zero), granted(1, 8)), fault(api.RuleKeep, 1))
}

func btoi(is bool) int {
	if is {
		return 1
	}
	return 0
}

// Jobs are shown one behind the other, from the first on, and all of them.
func TestP21_2ShownTurns(t *testing.T) {
	s := func(k int) api.Event { return shown(k, 0, api.Queued, zero) }
	began := row(submitted(1), submitted(2), submitted(3), up())
	keep := func(at ...int) (out []api.Fault) {
		for _, n := range at {
			out = append(out, fault(api.RuleKeep, n))
		}
		return out
	}
	for _, c := range []struct {
		l    []api.Event
		want []api.Fault
	}{
		{row(), nil},
		{row(s(1)), nil},
		{row(s(1), s(2)), nil},
		{row(s(1), s(2), s(3)), nil},
		{row(s(1), s(2), s(3), s(4)), nil},
		{row(s(1), s(2), s(3), s(4), s(5), refused()), nil},
		{row(s(1), s(2), s(3), refused()), nil},
		{row(s(1), s(2), s(3), submitted(4)), nil},
		{row(s(1), s(2), s(3), up()), nil},
		{row(refused(), refused()), keep(4)},
		{row(s(1), refused(), refused()), keep(5)},
		{row(s(1), s(2), down(), refused()), keep(6)},
		{row(s(1), s(2), submitted(4)), keep(6)},
		{row(s(1), s(2), up(), s(1), s(2), s(3), refused()), keep(6)},
		{row(s(1), s(2), up(), s(3)), keep(6, 7)},
		{row(s(1), s(2), upOf(2, 1), s(3)), keep(6, 7)},
		{row(up(), up(), s(1), s(2), s(3), up(), up()), keep(4, 5, 10)},
		{row(s(2)), keep(4)},
		{row(s(2), s(3), down()), keep(4)},
		{row(s(3), down()), keep(4)},
		{row(s(3), s(4), down()), keep(4)},
		{row(s(3), s(1), s(2), s(3), down()), keep(4, 5)},
		{row(s(3), s(1), down()), keep(4, 5, 6)},
		{row(s(1), s(1), s(2), s(3), down()), keep(5)},
		{row(s(1), s(1), down()), keep(5, 6)},
		{row(s(1), s(2), s(3), s(3), down()), keep(7)},
		{row(s(1), s(2), s(3), s(2), down()), keep(7, 8)},
		{row(s(1), s(2), s(3), s(5), s(4), down()), keep(7, 8)},
		{row(s(8), down()), keep(4)},
		{row(s(8), s(1), s(2), s(3), down()), keep(4, 5)},
	} {
		tells(t, behind(began, c.l...), c.want...)
	}
	// Shown where none are being shown they are not shown to anybody: the next start begins with the first one.
	tells(t, row(submitted(1), s(1), up(), s(1), down()), keep(1)...)
	tells(t, row(submitted(1), submitted(2), s(1), up(), s(2), down()), keep(2, 4)...)
	tells(t, row(submitted(1), submitted(2), s(1), s(2), down(), up(), down()), keep(2, 3, 6)...)
	// The start of a runner, and of whoever is at another address, shows none.
	for _, v := range []api.Event{upOf(2, 1), upOf(1, 0), upOf(0, 1), upOf(-1, 0), upOf(0, -1), down()} {
		tells(t, row(submitted(1), v, s(1)), fault(api.RuleKeep, 2))
		tells(t, row(submitted(1), v, refused()))
	}
}

// The log of a job that is shown is what was emitted under the badge that it is shown with, from the first one on.
func TestP21_2ShownPrefix(t *testing.T) {
	began := row(submitted(1), granted(1, 3), emitted(1, 3, 0, "a"), emitted(1, 3, 1, "b"), emitted(1, 4, 0, "a"), emitted(1, 3, 1<<40, ""), up())
	n := len(began)
	for _, c := range []struct {
		badge int
		log   []string
		want  []int
	}{
		{3, nil, nil}, {3, []string{"a"}, nil}, {3, ab, nil},
		{3, []string{"b"}, []int{api.RulePrefix}}, {3, []string{""}, []int{api.RulePrefix}}, {3, []string{"a", "b", ""}, []int{api.RulePrefix}}, {3, []string{"a", "a"}, []int{api.RulePrefix}},
		{4, nil, []int{api.RuleKeep}}, {4, []string{"a"}, []int{api.RuleKeep}}, {4, ab, []int{api.RulePrefix, api.RuleKeep}},
		{0, nil, []int{api.RuleKeep}}, {0, []string{"a"}, []int{api.RulePrefix, api.RuleKeep}},
	} {
		var want []api.Fault
		for _, rule := range c.want {
			want = append(want, fault(rule, n))
		}
		l := behind(began, shown(1, c.badge, api.Held, zero, c.log...))
		tells(t, l, want...)
		stands(t, l, standing{api.Held, c.badge, zero, c.log})
	}
	// Of jobs that stand otherwise, and of those that nobody knows, too.
	for _, status := range []int{api.Queued, api.Held, api.Recorded, api.Lost, 0} {
		for _, ahead := range [][]api.Event{began, row(emitted(1, 3, 0, "a")), row(submitted(1), up())} {
			for _, k := range []int{1, 2, 5} {
				l := behind(ahead, shown(k, 3, status, zero, "b"))
				if !slices.Contains(asks(t, l), fault(api.RulePrefix, len(l)-1)) {
					t.Fatalf("%+v: no RulePrefix", l)
				}
			}
		}
	}
	// Behind it the log is what was shown: what is stored goes on there.
	l := behind(began, shown(1, 3, api.Held, zero, "a"))
	tells(t, behind(l, stored(1, 3, 1, "b")))
	tells(t, behind(l, stored(1, 3, 0, "a")), fault(api.RulePrefix, n+1))
}

// A result that is shown for the first time was a runner's, with the whole log; one that is known is not asked again.
func TestP21_2ShownRecorded(t *testing.T) {
	at := func(n int, rules ...int) (out []api.Fault) {
		for _, r := range rules {
			out = append(out, fault(r, n))
		}
		return out
	}
	began := behind(attempts(), up())
	n := len(began)
	tells(t, behind(began, shown(1, 3, api.Recorded, seven, "a", "b")))
	for _, c := range []struct {
		v    api.Event
		want []int
	}{
		{shown(1, 3, api.Recorded, trap, "a", "b"), []int{api.RuleReal}},
		{shown(1, 3, api.Recorded, zero, "a", "b"), []int{api.RuleReal}},
		{shown(1, 3, api.Recorded, seven, "a"), []int{api.RuleWhole, api.RuleKeep}},
		{shown(1, 3, api.Recorded, trap, "a"), []int{api.RuleReal, api.RuleWhole, api.RuleKeep}},
		{shown(1, 3, api.Recorded, seven, "a", "x"), []int{api.RulePrefix, api.RuleKeep}},
		{shown(1, 3, api.Recorded, trap, "x"), []int{api.RuleReal, api.RulePrefix, api.RuleWhole, api.RuleKeep}},
		{shown(1, 4, api.Recorded, seven), []int{api.RuleReal, api.RuleWhole, api.RuleKeep}},
		{shown(2, 3, api.Recorded, seven, "a", "b"), []int{api.RuleReal, api.RuleWhole, api.RuleKeep}},
		{shown(5, 3, api.Recorded, seven, "a", "b"), []int{api.RuleReal, api.RuleWhole, api.RuleKeep}},
		// Of one that is shown as anything else no end is asked.
		{shown(1, 3, api.Lost, trap, "a"), []int{api.RuleKeep}},
		{shown(1, 3, api.Queued, trap, "a", "b"), []int{api.RuleKeep}},
		{shown(1, 3, api.Held, trap, "a", "b"), []int{api.RuleKeep}},
	} {
		tells(t, behind(began, c.v), at(n, c.want...)...)
		if c.v.Job == 1 {
			stands(t, behind(began, c.v), standing{c.v.Status, c.v.Badge, c.v.Result, c.v.Texts})
		} else {
			stands(t, behind(began, c.v)[n:])
		}
	}
	// It is known as recorded, rightly or not, and is shown again: just whether it is the same is asked.
	wrong := row(submitted(1), granted(1, 3), emitted(1, 3, 0, "a"), recorded(1, 3, seven), up())
	ahead := at(3, api.RuleReal, api.RuleWhole)
	tells(t, behind(wrong, shown(1, 3, api.Recorded, seven)), ahead...)
	for _, v := range []api.Event{shown(1, 3, api.Recorded, trap), shown(1, 4, api.Recorded, seven), shown(1, 3, api.Recorded, seven, "a")} {
		tells(t, behind(wrong, v), append(ahead, at(5, api.RuleKeep)...)...)
	}
	tells(t, behind(wrong, shown(1, 3, api.Recorded, seven), refused(), up(), shown(1, 3, api.Recorded, seven)), ahead...)
	// One that was shown as recorded can't be recorded any more, nor lost.
	l := behind(began, shown(1, 3, api.Recorded, seven, "a", "b"))
	tells(t, behind(l, recorded(1, 3, seven)), at(n+1, api.RuleOnce)...)
	tells(t, behind(l, lost(1, 3)), at(n+1, api.RuleOnce)...)
	tells(t, behind(l, granted(1, 4)), at(n+1, api.RuleHold)...)
}

// What is shown is what is known from then on, be it right or not; of a job that could not come next nothing is.
func TestP21_2ShownKnown(t *testing.T) {
	for _, w := range ways()[1:] {
		second := standing{api.Held, 5, zero, nil}
		for _, status := range []int{0, api.Queued, api.Held, api.Recorded, api.Lost, 7} {
			for _, log := range [][]string{nil, {"a", "b", "c"}, {"x"}} {
				for _, b := range []int{-4, 0, 3, 9} {
					for _, r := range results {
						now := standing{status, b, r, log}
						v := shown(1, b, status, r, log...)
						stands(t, behind(w.l, up(), v), now, second)
						stands(t, behind(w.l, v), now, second)
						stands(t, behind(w.l, shown(4, b, status, r, log...)), w.j, second)
					}
				}
			}
		}
	}
	// Shown as held it is held, under the badge that is shown, and what is done under it is right.
	l := row(emitted(1, 3, 0, "a"), ended(1, 3, 1, seven), submitted(1), up(), shown(1, 3, api.Held, zero))
	tells(t, behind(l, stored(1, 3, 0, "a"), recorded(1, 3, seven)))
	tells(t, behind(l, stored(1, 3, 0, "a"), expired(1, 3), granted(1, 4)))
	tells(t, behind(l, lost(1, 3)))
	tells(t, behind(l, expired(1, 4)), fault(api.RuleHold, 5))
}

// A Held job's cut: the log that was stored with it, its end, or its result; a Queued one's the grant. Two of them at once come of no cut.
func TestP21_2ShownCuts(t *testing.T) {
	began := row(submitted(1), granted(1, 3), emitted(1, 3, 0, "a"), emitted(1, 3, 1, "b"), stored(1, 3, 0, "a"), ended(1, 3, 2, seven), ended(1, 3, 1, trap), up())
	keep := fault(api.RuleKeep, len(began))
	tells(t, behind(began, shown(1, 3, api.Held, zero, "a")))
	tells(t, behind(began, shown(1, 3, api.Held, zero, "a", "b")))
	tells(t, behind(began, shown(1, 3, api.Held, zero)), keep)
	tells(t, behind(began, shown(1, 3, api.Held, seven, "a")), keep)
	tells(t, behind(began, shown(1, 3, api.Queued, zero, "a")))
	tells(t, behind(began, shown(1, 3, api.Queued, zero, "a", "b")), keep)
	tells(t, behind(began, shown(1, 3, api.Queued, zero)), keep)
	tells(t, behind(began, shown(1, 0, api.Queued, zero)), keep)
	tells(t, behind(began, shown(1, 3, api.Lost, zero, "a")))
	tells(t, behind(began, shown(1, 3, api.Lost, zero, "a", "b")), keep)
	tells(t, behind(began, shown(1, 3, api.Lost, trap, "a")), keep)
	tells(t, behind(began, shown(1, 3, api.Recorded, trap, "a")))
	tells(t, behind(began, shown(1, 3, api.Recorded, seven, "a", "b")), keep)
	tells(t, behind(began, shown(1, 4, api.Held, zero)), keep)
	queued := row(submitted(1), granted(1, 3), emitted(1, 3, 0, "a"), stored(1, 3, 0, "a"), expired(1, 3), emitted(1, 4, 0, "a"), up())
	keep = fault(api.RuleKeep, len(queued))
	tells(t, behind(queued, shown(1, 3, api.Queued, zero, "a")))
	tells(t, behind(queued, shown(1, 4, api.Held, zero)))
	tells(t, behind(queued, shown(1, 1<<40, api.Held, zero)))
	tells(t, behind(queued, shown(1, 3, api.Held, zero)), keep)
	tells(t, behind(queued, shown(1, 3, api.Held, zero, "a")), keep)
	tells(t, behind(queued, shown(1, 4, api.Held, zero, "a")), keep)
	tells(t, behind(queued, shown(1, 4, api.Held, seven)), keep)
	tells(t, behind(queued, shown(1, 4, api.Queued, zero)), keep)
	tells(t, behind(queued, shown(1, 3, api.Lost, zero, "a")), keep)
	tells(t, behind(queued, shown(1, 3, api.Queued, zero)), keep)
	// The badge that is shown counts for the jobs behind it.
	two := row(submitted(1), submitted(2), up(), shown(1, 4, api.Held, zero))
	tells(t, behind(two, shown(2, 5, api.Held, zero)))
	tells(t, behind(two, shown(2, 4, api.Held, zero)), fault(api.RuleKeep, 4))
	tells(t, behind(two, shown(2, 3, api.Held, zero)), fault(api.RuleKeep, 4))
}
