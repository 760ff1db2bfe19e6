package state_test

import (
	"math/rand"
	"slices"
	"testing"

	"gaffer/api"
	"gaffer/state"
)

// goOn does changes that a seed chooses.
func (b both) goOn(seed int64, many int) {
	b.t.Helper()
	rnd := rand.New(rand.NewSource(seed))
	for range many {
		var l []api.Change
		for range 1 + rnd.Intn(2) {
			l = append(l, anyChange(rnd, b.w))
		}
		b.apply(l...)
	}
	b.same()
}

// reloads: Load takes Bytes; what it makes answers as the state does, and goes on as a clone of it.
func (b both) reloads(seed int64) {
	b.t.Helper()
	if why := wrongWith(b.w.most, b.s.View()); why != "" {
		b.t.Fatalf("%+v: %s", b.s.View(), why)
	}
	again, ok := loads(b.t, b.w.most, b.s.Bytes())
	if !ok || len(b.s.Bytes()) > 17000 {
		b.t.Fatalf("%+v: its bytes are not taken, or %d", b.s.View(), len(b.s.Bytes()))
	}
	twin := b.clone()
	again.goOn(seed, 12)
	twin.goOn(seed, 12)
	if again.s.Bytes() != twin.s.Bytes() || again.s.Head() != twin.s.Head() {
		b.t.Fatalf("of %+v: %+v, not %+v", b.s.View(), again.s.View(), twin.s.View())
	}
}

// stays: P17.6, of a view and one behind it, between which the changes l came.
func stays(t *testing.T, ahead, behind api.View, l []api.Change) {
	t.Helper()
	if behind.Reserved < ahead.Reserved || len(behind.Jobs) < len(ahead.Jobs) {
		t.Fatalf("%+v became %+v", ahead, behind)
	}
	for i, p := range ahead.Jobs {
		q := behind.Jobs[i]
		if q.Program != p.Program || q.Row.Job != p.Row.Job {
			t.Fatalf("%+v became %+v", p, q)
		}
		if p.Row.Status >= api.Recorded && !samePlace(p, q) {
			t.Fatalf("settled: %+v became %+v", p, q)
		}
		anew := slices.ContainsFunc(l, func(c api.Change) bool { return c.Kind == api.ChGrant && c.Job == i+1 })
		if !anew && (len(q.Log) < len(p.Log) || !slices.Equal(q.Log[:len(p.Log)], p.Log)) {
			t.Fatalf("the log: %+v became %+v", p, q)
		}
	}
}

// Whatever changes are handed in: P17.2 to P17.4 by the words, and what follows of them, step by step.
func TestP17_5P17_6Walks(t *testing.T) {
	ends := map[int]int{}
	texts := 0
	for seed := range int64(120) {
		rnd := rand.New(rand.NewSource(seed))
		most := 1 + rnd.Intn(8)
		b := made(t, most)
		if seed%3 == 0 {
			b = standing(t, most, anyView(rnd, most))
		}
		for step := range 150 {
			ahead := b.s.View()
			var l []api.Change
			for range 1 + rnd.Intn(3) {
				l = append(l, anyChange(rnd, b.w))
			}
			at, e := b.apply(l...)
			b.same()
			if e != api.OK && !sameView(b.s.View(), ahead) {
				t.Fatalf("seed %d: refused at %d, and %+v became %+v", seed, at, ahead, b.s.View())
			}
			if e == api.OK {
				stays(t, ahead, b.s.View(), l)
			}
			if step%15 == 0 {
				b.reloads(seed + int64(step))
			}
		}
		for _, p := range b.s.View().Jobs {
			ends[p.Row.Status]++
			texts += len(p.Log)
		}
	}
	for status := 1; status <= 4; status++ {
		if ends[status] < 20 {
			t.Errorf("just %d walks' rows end in the status %d", ends[status], status)
		}
	}
	if texts < 1000 {
		t.Errorf("just %d texts", texts)
	}
}

// The same changes, each Apply cut as one likes, make the same bytes; so does doing them one by one.
func TestP17_5CutAsOneLikes(t *testing.T) {
	for seed := range int64(60) {
		rnd := rand.New(rand.NewSource(seed))
		most := 1 + rnd.Intn(4)
		b := made(t, most)
		for range 120 {
			b.apply(anyChange(rnd, b.w))
		}
		all := b.w.since
		want := b.s.Bytes()
		whole, _ := state.New(most)
		if at, e := whole.Apply(all); e != api.OK || whole.Bytes() != want {
			t.Fatalf("seed %d: in one: %d, %v", seed, at, e)
		}
		for range 10 {
			s, _ := state.New(most)
			for at := 0; at < len(all); {
				n := rnd.Intn(min(9, len(all)-at) + 1)
				if i, e := s.Apply(all[at : at+n]); i != 0 || e != api.OK {
					t.Fatalf("seed %d: from %d on: %d, %v", seed, at, i, e)
				}
				at += n
				if rnd.Intn(4) == 0 { // one that is refused in between is nothing
					s.Apply([]api.Change{reserve(top), {}})
				}
				if rnd.Intn(6) == 0 { // nor is a load
					s, _ = state.Load(most, s.Bytes())
				}
			}
			if s.Bytes() != want {
				t.Fatalf("seed %d: %x, not %x", seed, s.Bytes(), want)
			}
		}
	}
}

// smallWorld is every change of a world of two jobs, of badges up to four, of one text.
func smallWorld() []api.Change {
	l := []api.Change{{}, reserve(2), reserve(4), submit(1), submit(2)}
	for badge := 1; badge <= 4; badge++ {
		for job := 1; job <= 2; job++ {
			l = append(l, api.Change{Kind: api.ChGrant, Job: job, Badge: badge, Life: 1})
		}
		l = append(l, lengthen(badge, "a"), expire(badge), settle(badge, api.Result{Code: 1}))
	}
	return l
}

// Every change of a small world, at every state that it leads to (logs of at most one text).
func TestP17_5EveryStateOfASmallWorld(t *testing.T) {
	for most := 1; most <= 2; most++ {
		seen := map[string]int{"\x00\x00": 1}
		work := []both{made(t, most)}
		for len(work) > 0 {
			at := work[0]
			work = work[1:]
			ahead := at.s.View()
			loaded, ok := loads(t, most, at.s.Bytes())
			if !ok {
				t.Fatalf("%+v is not taken", ahead)
			}
			for _, c := range smallWorld() {
				b := both{t, at.s.Clone(), &words{most: most, base: ahead}}
				_, e := b.apply(c)
				o := both{t, loaded.s.Clone(), loaded.w.clone()}
				if _, f := o.apply(c); f != e || o.s.Bytes() != b.s.Bytes() {
					t.Fatalf("%+v, loaded: Apply(%+v): %v, not %v", ahead, c, f, e)
				}
				behind := b.s.View()
				stays(t, ahead, behind, []api.Change{c})
				tall := slices.ContainsFunc(behind.Jobs, func(p api.Place) bool { return len(p.Log) > 1 })
				if key := b.s.Bytes(); seen[key] == 0 && !tall {
					seen[key] = 1
					b.same()
					work = append(work, b)
				}
			}
			at.same() // what was done to its clones is not seen here
		}
		if len(seen) < 300*most {
			t.Errorf("most %d: just %d states", most, len(seen))
		}
	}
}

// Settled jobs stay, whatever comes.
func TestP17_6SettledStay(t *testing.T) {
	b := full(t)
	ahead := b.s.View()
	for badge := 0; badge <= 21; badge++ {
		for job := 3; job <= 5; job++ {
			b.refuses(0, grant(job, badge))
		}
		if badge != 5 && badge != 6 {
			b.refuses(0, lengthen(badge, "x"))
			b.refuses(0, expire(badge))
			b.refuses(0, settle(badge, api.Result{Bits: 99}))
		}
	}
	b.takes(settle(5, api.Result{}), settle(6, api.Result{}), grant(1, 8), grant(2, 9), grant(8, 10), reserve(top))
	for i := 2; i <= 4; i++ {
		if !samePlace(b.s.View().Jobs[i], ahead.Jobs[i]) {
			t.Errorf("%+v became %+v", ahead.Jobs[i], b.s.View().Jobs[i])
		}
	}
}

// R2: what is refused changes nothing that a later call could tell, wherever in the row the wrong one stands.
func TestR2Refused(t *testing.T) {
	for seed := range int64(60) {
		rnd := rand.New(rand.NewSource(seed))
		b := standing(t, 3, anyView(rnd, 3))
		good := b.clone()
		for range 40 {
			c := anyChange(rnd, good.w)
			good.apply(c)
		}
		l := append(copyChanges(good.w.since), api.Change{})
		twin := b.clone()
		b.refuses(len(l)-1, l...)
		b.goOn(seed, 30)
		twin.goOn(seed, 30)
		if b.s.Bytes() != twin.s.Bytes() {
			t.Fatalf("seed %d: %+v, not %+v", seed, b.s.View(), twin.s.View())
		}
	}
}

// spoil writes over a list and the room behind it.
func spoil[T any](l []T, x T) {
	l = l[:cap(l)]
	for i := range l {
		l[i] = x
	}
}

// R4: the lists that are handed in, and the room behind them, are neither changed nor kept.
func TestR4HandedIn(t *testing.T) {
	b := made(t, 2)
	b.takes(reserve(9), submit(1), grant(1, 1))
	for n := 1; n <= 8; n++ {
		texts := append(make([]string, 0, 40), of(n)...)
		for i := range texts[:40] {
			if i >= n {
				texts[:40][i] = "behind"
			}
		}
		row := append(make([]api.Change, 0, 4), lengthen(1, texts...), reserve(100+n))
		if n == 8 { // the log has no room for them any more
			b.apply(lengthen(1, "x"))
		}
		was := slices.Clone(texts[:40])
		rowWas := copyChanges(row)
		b.apply(row...)
		if !slices.Equal(texts[:40], was) {
			t.Fatalf("%q became %q", was, texts[:40])
		}
		for i := range rowWas {
			if row[i].Kind != rowWas[i].Kind || !slices.Equal(row[i].Texts, rowWas[i].Texts) {
				t.Fatalf("%+v became %+v", rowWas, row)
			}
		}
		spoil(texts, "spoilt")
		spoil(row, api.Change{Kind: 5, Badge: 1, Texts: []string{"spoilt"}})
		b.same()
	}
	b.takes(expire(1))
}

// R4: what is answered is new memory, with the room behind it; no two lists of one answer share any.
func TestR4Answered(t *testing.T) {
	for _, b := range []both{full(t), standing(t, 2, sample()), standing(t, 2, bytesView(t))} {
		for round := range 3 {
			v := b.s.View()
			for i := range v.Jobs { // one list of the answer after the other
				others := copyView(v)
				spoil(v.Jobs[i].Log, "spoilt")
				for j := range v.Jobs {
					if j != i && !slices.Equal(v.Jobs[j].Log, others.Jobs[j].Log) {
						t.Fatalf("the logs %d and %d share memory", i, j)
					}
				}
			}
			spoil(v.Jobs, api.Place{Program: "spoilt"})
			b.same()
			for _, p := range b.w.view().Jobs {
				if got, ok := b.s.Find(p.Row.Badge); ok {
					spoil(got.Log, "spoilt")
				}
			}
			b.same()
			kept := b.s.View() // later changes do not reach what was answered
			was := copyView(kept)
			b.goOn(int64(round), 20)
			if !sameView(kept, was) {
				t.Fatalf("%+v became %+v", was, kept)
			}
		}
	}
}

// bytesView is sample's, as a state that has read it shows it.
func bytesView(t *testing.T) api.View {
	t.Helper()
	s, e := state.Load(2, bytesOf(sample()))
	if e != api.OK {
		t.Fatal(e)
	}
	return s.View()
}

// Of one change on, a clone and its object go apart: neither sees what came at the other.
func TestR7Apart(t *testing.T) {
	changes := []api.Change{reserve(30), grant(1, 8), grant(8, 9), lengthen(5, "of the one"), lengthen(6, "of the one"), expire(5), settle(6, api.Result{Bits: 3})}
	for _, one := range changes {
		for _, other := range changes {
			a := full(t)
			b := a.clone()
			c := b.clone()
			a.takes(one)
			b.same()
			c.same()
			if other.Kind == api.ChLog {
				other.Texts = []string{"of the other", "and more"}
			}
			b.takes(other)
			a.same()
			c.same()
			c.takes(lengthen(5, "third"), lengthen(6, "third"))
			a.same()
			b.same()
		}
	}
	for n := 1; n < 32; n++ { // logs of every length, which both make longer
		a := made(t, 1)
		a.takes(reserve(1), submit(1), grant(1, 1))
		for range n {
			a.takes(lengthen(1, "both"))
		}
		b := a.clone()
		a.takes(lengthen(1, "of the one"))
		b.takes(lengthen(1, "of the other"))
		a.same()
		b.same()
		again, _ := loads(t, 1, a.s.Bytes())
		o := again.clone()
		if n < 31 {
			again.takes(lengthen(1, "once"))
			o.takes(lengthen(1, "twice"))
			again.same()
		}
	}
}

// Many states and clones of them, called in any order.
func TestR7WalkOfMany(t *testing.T) {
	for seed := range int64(40) {
		rnd := rand.New(rand.NewSource(seed))
		all := []both{made(t, 2), full(t), standing(t, 3, anyView(rnd, 3))}
		for range 200 {
			b := all[rnd.Intn(len(all))]
			if rnd.Intn(12) == 0 && len(all) < 12 {
				all = append(all, b.clone())
			}
			b.apply(anyChange(rnd, b.w), anyChange(rnd, b.w))
			b.apply(anyChange(rnd, b.w))
		}
		for _, b := range all {
			b.same()
			b.reloads(seed)
		}
	}
}
