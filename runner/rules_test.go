package runner_test

import (
	"math/rand"
	"slices"
	"testing"

	"gaffer/api"
	"gaffer/runner"
)

// R1: a New that is refused leaves nothing behind; R2: there is one error, whatever is wrong, and however much.
func TestR2Refused(t *testing.T) {
	for _, n := range far {
		for _, c := range []api.Config{{}, {Runners: n, Resend: n, Window: n, Quantum: n}, {Runners: 1, Resend: n, Window: 1, Quantum: n}, {Runners: n, Resend: 1, Window: 1, Quantum: 1}} {
			for _, slot := range append(far, 0, 1) {
				refuses(t, c, slot, n, true)
				refuses(t, c, slot, 1, true)
			}
		}
	}
}

// spoil writes over a list and the room behind it.
func spoil[T any](l []T, x T) {
	l = l[:cap(l)]
	for i := range l {
		l[i] = x
	}
}

// R4: what is answered is new memory, with the room behind it, and does not change later.
func TestR4Answered(t *testing.T) {
	for seed := range int64(20) {
		rnd := rand.New(rand.NewSource(seed))
		c := anyConfig(rnd)
		b := working(t, c, rising(300, "emit r0", "write r0"))
		var kept [][]api.Event
		for round := range 40 {
			said := b.x.Step()
			want := b.w.step()
			if !slices.Equal(said, want) {
				t.Fatalf("said %+v, not %+v", said, want)
			}
			spoil(said, api.Datagram{Data: "spoilt"})
			if round%3 == 0 {
				twin := b.clone()
				l := b.tell()
				spoil(l, api.Event{Text: "spoilt"})
				kept = append(kept, l)
				twin.tell() // its list is its own
			}
			b.tick()
			if j := b.w.job; j != nil {
				b.coord(ack(7, j.log.said))
				b.sink(took(1, 7, j.artefact.said))
			}
			b.coord(bare(api.MsgAlive, 5, max(1, b.w.way.Number)))
		}
		for _, l := range kept {
			if slices.ContainsFunc(l[:cap(l)], func(v api.Event) bool { return v.Text != "spoilt" }) {
				t.Fatal("an event was told into a list that was answered")
			}
		}
	}
}

// R7: a clone and its object go apart: neither sees what comes at the other, and each answers as it would have without that.
func TestR7Apart(t *testing.T) {
	doings := []func(b *both){
		func(b *both) { b.step() },
		func(b *both) { b.tick() },
		func(b *both) { b.tell() },
		func(b *both) { b.coord(ack(7, 1)) },
		func(b *both) { b.sink(took(1, 7, 1)) },
		func(b *both) { b.sink(refused(1, 7)) },
		func(b *both) { b.coord(bare(api.MsgGone, 5, 2), bare(api.MsgGone, 5, 3)) },
		func(b *both) { b.coord(bare(api.MsgAlive, 5, 2)) },
		func(b *both) { b.coord(bare(api.MsgStale, 5, 1), bare(api.MsgStale, 5, 2), bare(api.MsgStale, 5, 3)) },
		func(b *both) { b.coord(welcome(6)) },
		func(b *both) { b.coord(offer(5, 1, 2, 8, sample())) },
	}
	l := stands(t)
	c := config()
	c.Quantum = 2
	l["midway"] = working(t, c, rising(40, "emit r0", "write r0"))
	l["midway"].step()
	for name, start := range l {
		for i, one := range doings {
			for k, other := range doings {
				a := start.clone()
				b := a.clone()
				for range 3 {
					one(a)
					other(b)
					b.same()
					a.same()
				}
				for _, x := range []*both{a, b} {
					for range 4 {
						x.step()
						x.tick()
					}
					x.tell()
				}
				if t.Failed() {
					t.Fatalf("%s: %d, and %d", name, i, k)
				}
			}
		}
	}
}

// R7: both go on alike where the same is done to both, what Told would tell with it.
func TestR7Alike(t *testing.T) {
	for seed := range int64(60) {
		rnd := rand.New(rand.NewSource(seed))
		w := &watch{both: made(t, anyConfig(rnd), 0, 1)}
		badge := 0
		walk := func(b *both, rnd *rand.Rand, badge *int) {
			switch rnd.Intn(6) {
			case 0, 1:
				b.step()
			case 2:
				b.tick()
			default:
				b.hear((&watch{both: b, under: b.w.way}).anyHearing(rnd, badge))
			}
		}
		for range 100 {
			walk(w.both, rnd, &badge)
		}
		twin := w.clone()
		one, other := rand.New(rand.NewSource(seed)), rand.New(rand.NewSource(seed))
		x, y := badge, badge
		for range 60 {
			walk(w.both, one, &x)
			walk(twin, other, &y)
		}
		w.alike(twin)
	}
}

// R1: none of its calls panics, whatever it is given.
func TestR1Anything(t *testing.T) {
	rnd := rand.New(rand.NewSource(1))
	for range 2000 {
		c := api.Config{Runners: rnd.Intn(10), Resend: rnd.Intn(18), Window: rnd.Intn(10), Quantum: rnd.Intn(66)}
		r, e := runner.New(c, rnd.Intn(10)-1, rnd.Intn(3))
		if e != api.OK {
			continue
		}
		for range 30 {
			s := make([]byte, rnd.Intn(20))
			rnd.Read(s)
			if len(s) > 0 {
				s[0] %= 18
			}
			r.Hear(api.Addr{Node: rnd.Intn(3), Life: rnd.Intn(2)}, string(s))
			r.Step()
			r.Tick()
			r.Told()
			r.Look()
			r = r.Clone()
		}
	}
}
