package audit_test

import (
	"math/rand"
	"slices"
	"testing"

	"gaffer/api"
	"gaffer/audit"
)

// anyEvent is any of numbers of all kinds; most of them may be.
func anyEvent(rnd *rand.Rand) api.Event {
	number := func() int {
		switch rnd.Intn(40) {
		case 0:
			return far[rnd.Intn(len(far))]
		case 1:
			return rnd.Intn(300) - 100
		}
		return rnd.Intn(3)
	}
	text := func() string { return []string{"", "a", "b", "\xff"}[rnd.Intn(4)] }
	v := api.Event{
		Kind: 1 + rnd.Intn(14), Code: api.Errno(number()), Who: api.Addr{Node: number(), Life: rnd.Intn(2)}, Job: 1 + rnd.Intn(3), Badge: rnd.Intn(5), Index: rnd.Intn(3),
		Count: number(), Status: number(), Result: api.Result{Code: number(), Bits: uint64(number())}, Text: text(),
	}
	for range rnd.Intn(4) {
		v.Texts = append(v.Texts, text())
	}
	switch rnd.Intn(200) {
	case 0:
		v.Kind = number()
	case 1:
		v.Job = number()
	case 2:
		v.Badge = number()
	case 3:
		v.Index = number()
	}
	return v
}

func anyHistory(rnd *rand.Rand, many int) []api.Event {
	var l []api.Event
	for range many {
		l = append(l, anyEvent(rnd))
	}
	return l
}

// mays is what All takes, of any history.
func mays(l []api.Event) []api.Event {
	return slices.DeleteFunc(l, func(v api.Event) bool { return refusal(row(v)) != api.OK })
}

// R1: whatever the events are, both calls answer; and they answer what the words do.
func TestR1Anything(t *testing.T) {
	refusals, told := 0, map[int]int{}
	for seed := range int64(3000) {
		rnd := newRand(seed)
		l := anyHistory(rnd, rnd.Intn(80))
		if asks(t, l); refusal(l) != api.OK {
			refusals++
		}
		l = mays(l)
		all := asks(t, l)
		for _, f := range all {
			told[f.Rule]++
		}
		if seed%30 == 0 {
			beginnings(t, l, all)
		}
	}
	if refusals < 250 || refusals > 2500 {
		t.Errorf("%d were refused", refusals)
	}
	for rule := api.RuleOnce; rule <= api.RuleKeep; rule++ {
		if told[rule] < 100 {
			t.Errorf("the rule %d was broken just %d times", rule, told[rule])
		}
	}
}

// R1: long histories, of events that are all of one kind, or of jobs with long logs, end.
func TestR1Long(t *testing.T) {
	for kind := api.EvRefused; kind <= api.EvShown; kind++ {
		l := make([]api.Event, api.MaxEvents)
		for i := range l {
			l[i] = api.Event{Kind: kind, Job: 1, Badge: i, Index: i % 7}
		}
		if _, e := audit.All(l); e != api.OK {
			t.Errorf("%d: %v", kind, e)
		}
	}
	l := row(submitted(1), granted(1, 3))
	for i := range 30000 {
		l = append(l, emitted(1, 3, i, "a"), stored(1, 3, i, "a"))
	}
	l = append(l, ended(1, 3, 30000, seven))
	for len(l) < api.MaxEvents-1 {
		l = append(l, ended(1, 3, 0, trap))
	}
	l = append(l, recorded(1, 3, seven))
	if all, e := audit.All(l); e != api.OK || len(all) > 0 {
		t.Errorf("%+v, %v", all, e)
	}
}

// R3: nil lists and empty ones are the same, also within events.
func TestR3Empty(t *testing.T) {
	for _, l := range [][]api.Event{
		{}, {submitted(1), granted(1, 3), stored(1, 3, 0), up(), shown(1, 3, api.Held, zero)}, {up(), shown(1, 0, api.Queued, zero), down(), up(), shown(1, 0, api.Queued, zero)},
		{submitted(1), granted(1, 3), up(), shown(1, 3, api.Lost, zero)}, {submitted(1), up(), shown(1, 3, api.Held, zero)},
	} {
		tells(t, l)
		for i := range l {
			if l[i].Kind == api.EvStored || l[i].Kind == api.EvShown {
				l[i].Texts = []string{}
				tells(t, l)
			}
		}
		if len(l) == 0 {
			tells(t, nil)
		}
	}
}

// kept is a history, with the room behind it and behind its lists, as it was.
type kept struct {
	l     []api.Event
	texts [][]string
}

// roomy is a history with room behind it, and behind each list, all of it written.
func roomy(l []api.Event) []api.Event {
	out := append(make([]api.Event, 0, len(l)+3), l...)
	for i := range out {
		texts := append(make([]string, 0, len(out[i].Texts)+3), out[i].Texts...)
		copy(texts[len(texts):cap(texts)], []string{"room", "room", "room"})
		out[i].Texts = texts
	}
	copy(out[len(out):cap(out)], row(submitted(1), down(), granted(1, 1)))
	return out
}

func keeps(l []api.Event) kept {
	k := kept{l: slices.Clone(l[:cap(l)])}
	for _, v := range l {
		k.texts = append(k.texts, slices.Clone(v.Texts[:cap(v.Texts)]))
	}
	return k
}

func (k kept) same(l []api.Event) bool {
	for i, v := range l[:cap(l)] {
		if !sameEvent(v, k.l[i]) || v.Index != k.l[i].Index || v.Count != k.l[i].Count || v.Text != k.l[i].Text || v.Who != k.l[i].Who {
			return false
		}
		if i < len(l) && !slices.Equal(v.Texts[:cap(v.Texts)], k.texts[i]) {
			return false
		}
	}
	return true
}

// R4: what is handed in is not changed, nor the room behind it.
func TestR4HandedIn(t *testing.T) {
	for seed := range int64(300) {
		rnd := newRand(seed)
		l := mays(anyHistory(rnd, rnd.Intn(60)))
		if seed%3 == 0 {
			l = walked(t, rnd, 60).l
		}
		l = roomy(l)
		k := keeps(l)
		audit.All(l)
		audit.First(l)
		if !k.same(l) {
			t.Fatalf("seed %d: the history has changed", seed)
		}
	}
	// A log that was shown, and then stored to: the room behind the list that was handed in stays.
	for _, ahead := range [][]api.Event{
		row(up(), shown(1, 3, api.Held, zero, "a"), stored(1, 3, 1, "b"), stored(1, 3, 2, "c")), row(submitted(1), granted(1, 3), stored(1, 3, 0, "a"), stored(1, 3, 1, "b")),
		row(submitted(1), up(), shown(1, 3, api.Held, zero), stored(1, 3, 0, "a")),
	} {
		l := roomy(ahead)
		k := keeps(l)
		asks(t, l)
		if !k.same(l) {
			t.Fatalf("%+v has changed", ahead)
		}
	}
}

// spoil writes over a list and the room behind it.
func spoil[T any](l []T, x T) {
	l = l[:cap(l)]
	for i := range l {
		l[i] = x
	}
}

// R4: what is answered is new memory, with the room behind it; nothing is kept of what was handed in.
func TestR4Answered(t *testing.T) {
	for seed := range int64(300) {
		rnd := newRand(seed)
		l := roomy(mays(anyHistory(rnd, rnd.Intn(60))))
		want := faults(l)
		first, _ := audit.All(l)
		second, _ := audit.All(l)
		spoil(first, fault(-1, -1))
		if !slices.Equal(second, want) {
			t.Fatalf("seed %d: %+v, not %+v", seed, second, want)
		}
		third, _ := audit.All(l)
		for _, v := range l {
			spoil(v.Texts, "spoilt")
		}
		spoil(l, api.Event{Kind: -1})
		if !slices.Equal(second, want) || !slices.Equal(third, want) || slices.ContainsFunc(first[:cap(first)], func(f api.Fault) bool { return f != fault(-1, -1) }) {
			t.Fatalf("seed %d: an answer has changed", seed)
		}
	}
}

// R5: the same history is told the same, whatever was asked ahead, and by whoever asks at the same time.
func TestR5OneAnswer(t *testing.T) {
	var histories [][]api.Event
	var want [][]api.Fault
	for seed := range int64(60) {
		rnd := newRand(seed)
		l := mays(anyHistory(rnd, rnd.Intn(60)))
		if seed%3 == 0 {
			l = anyChange(rnd, walked(t, rnd, 60).l)
		}
		histories, want = append(histories, l), append(want, faults(l))
	}
	done := make(chan int)
	for g := range 8 {
		go func() {
			wrong := -1
			rnd := newRand(int64(g))
			for range 200 {
				i := rnd.Intn(len(histories))
				if got, e := audit.All(histories[i]); e != api.OK || !slices.Equal(got, want[i]) {
					wrong = i
				}
			}
			done <- wrong
		}()
	}
	for range 8 {
		if i := <-done; i >= 0 {
			t.Errorf("All(%+v): not %+v", histories[i], want[i])
		}
	}
}

// R2: a history that is refused changes nothing for the next one.
func TestR2Refused(t *testing.T) {
	l := row(submitted(1), granted(1, 3), stored(1, 3, 0, "a"))
	want := []api.Fault{fault(api.RulePrefix, 2)}
	for range 3 {
		refuses(t, api.ErrAuditEvent, behind(row(emitted(1, 3, 0, "a")), submitted(0)))
		refuses(t, api.ErrAuditEvent, behind(l, emitted(1, 3, -1, "a")))
		refuses(t, api.ErrAuditMany, make([]api.Event, api.MaxEvents+1))
		if got, e := audit.All(l); e != api.OK || !slices.Equal(got, want) {
			t.Fatalf("All: %+v, %v", got, e)
		}
	}
}
