package cluster_test

import (
	"slices"
	"strings"
	"testing"

	"gaffer/api"
	"gaffer/wire"
)

// says holds what is under way against messages, in the order of the places.
func (b *both) says(want ...api.Msg) {
	b.t.Helper()
	var got []api.Msg
	for _, d := range b.x.Bag() {
		m, e := wire.Decode(d.Data)
		if e != api.OK {
			b.t.Fatalf("under way: %q", d.Data)
		}
		got = append(got, m)
	}
	if !slices.Equal(got, want) {
		b.t.Fatalf("under way: %+v, not %+v", got, want)
	}
}

// row is how a job stands.
func (b *both) row(job int) api.Row {
	b.t.Helper()
	v, is := b.x.View()
	if !is {
		b.t.Fatal("the coordinator is down")
	}
	return v.Jobs[job-1].Row
}

// The chapter's first example, round by round.
func TestExampleRounds(t *testing.T) {
	b := made(t, config())
	who := runnerAt(0, 1)
	b.do(submits(sample()), submitted(1))
	welcome := api.Msg{Kind: api.MsgWelcome, Session: 1}
	b.do(round())
	b.says(welcome)
	b.do(round())
	b.says()
	b.do(round(), granted(1, 2, who))
	b.says(api.Msg{Kind: api.MsgOffer, Session: 1, Number: 1, Job: 1, Badge: 2, Program: sample()})
	b.do(round())
	b.says()
	b.do(round(), emitted(who, 1, 2, 0, "1p0"), wrote(who, 1, 2, 1, "1p0"), stored(1, 2, 0, "1p0"), admitted(1, 2, 0, ""), admitted(1, 2, 1, "1p0"))
	took := func(n int) api.Msg { return api.Msg{Kind: api.MsgTook, Job: 1, Badge: 2, Count: n} }
	b.says(api.Msg{Kind: api.MsgAck, Badge: 2, Count: 1}, took(1), took(2), api.Msg{Kind: api.MsgAlive, Session: 1, Number: 2})
	b.do(round())
	b.says()
	b.do(round(), ended(who, 1, 2, 1, one), recorded(1, 2, one))
	b.says(api.Msg{Kind: api.MsgRecorded, Session: 1, Number: 3})
	if !b.x.Settled() {
		t.Error("not settled")
	}
}

// The chapter's second and third example.
func TestExampleCutAndRefused(t *testing.T) {
	for _, bytes := range []int{0, 1, 64, 127, 128} {
		b := made(t, config())
		b.do(cuts(2, bytes))
		b.do(submits(sample()), down(api.Addr{}))
		if bytes < 128 {
			b.do(starts(0), up(api.Addr{}))
			b.do(submits(sample()), submitted(1))
		} else {
			b.do(starts(0), up(api.Addr{}), shown(1, 0, api.Queued, api.Result{}))
			b.do(submits(sample()), submitted(2))
		}
	}
	b := made(t, config())
	b.do(delivers(0), refused(api.ErrNetPlace))
	b.do(crashes(1), refused(api.ErrClusterNode))
	b.do(starts(2), refused(api.ErrClusterUp))
}

// The first example of the whole.
func TestExampleWholePlain(t *testing.T) {
	b := made(t, config())
	who := runnerAt(0, 1)
	b.do(submits(plain()), submitted(1))
	b.does(rounds(4), granted(1, 2, who))
	if l, _ := b.x.Runner(0); l.Session != 1 || l.Job != 1 {
		t.Fatalf("%+v", l)
	}
	b.do(round(), emitted(who, 1, 2, 0, "1p0"), ended(who, 1, 2, 1, one), stored(1, 2, 0, "1p0"), admitted(1, 2, 0, ""))
	b.do(round())
	b.do(round(), recorded(1, 2, one))
	v, _ := b.x.View()
	if p := v.Jobs[0]; p.Row.Status != api.Recorded || p.Row.Result != one || !slices.Equal(p.Log, []string{"1p0"}) {
		t.Errorf("%+v", p)
	}
	if a := b.x.Artefacts(); len(a) != 1 || a[0].Job != 1 || a[0].Badge != 2 || len(a[0].Pieces) > 0 {
		t.Errorf("%+v", a)
	}
}

// The second: the power goes in the record of a Submit, behind any of its raw writes.
func TestExampleWholeSubmit(t *testing.T) {
	long := rising(1024, strings.Split(strings.Repeat("move r7 r7; ", 55)+"emit r0", "; ")...)
	for _, program := range []string{plain(), long} {
		writes := 0
		for k := 1; ; k++ {
			b := made(t, config())
			b.do(cuts(k, 128))
			if l := b.step(submits(program)); l[0].Kind == api.EvSubmitted {
				break
			}
			writes = k
		}
		if n := (len(program)+8+127)/128 + 1; writes != n {
			t.Fatalf("%d raw writes, not %d", writes, n)
		}
		for k := 1; k <= writes; k++ {
			for _, bytes := range []int{0, 1, 50, 127, 128} {
				b := made(t, config())
				b.do(cuts(k, bytes))
				b.do(submits(program), down(api.Addr{}))
				if k == writes && bytes == 128 {
					b.do(starts(0), up(api.Addr{}), shown(1, 0, api.Queued, api.Result{}))
				} else {
					b.do(starts(0), up(api.Addr{}))
				}
			}
		}
	}
}

// The third: the grant lies on the disk, and the Offer is not said.
func TestExampleWholeGrant(t *testing.T) {
	b := made(t, config())
	who := runnerAt(0, 1)
	b.do(submits(plain()), submitted(1))
	b.does(rounds(2))
	b.do(cuts(2, 128))
	b.do(round(), down(api.Addr{}))
	b.says()
	b.do(starts(0), up(api.Addr{}), shown(1, 2, api.Held, api.Result{}))
	if l, _ := b.x.Leases(); len(l) != 1 || l[0] != (api.Lease{Job: 1, Badge: 2, Holder: who, Left: 40}) {
		t.Fatalf("%+v", l)
	}
	// Resend is 2: the Poll is said anew, and is of a session that is not known.
	b.does([]api.Step{ticks(2), ticks(2), stepsOf(2), delivers(0)})
	b.says(api.Msg{Kind: api.MsgStale, Session: 1, Number: 1})
	b.does([]api.Step{delivers(0), stepsOf(2), delivers(0)})
	b.says(api.Msg{Kind: api.MsgWelcome, Session: 5})
	b.does([]api.Step{delivers(0), stepsOf(2), delivers(0)})
	b.says(api.Msg{Kind: api.MsgNone, Session: 5, Number: 1})
	b.do(delivers(0))
	for range 39 {
		b.do(ticks(0))
	}
	b.do(ticks(0), expired(1, 2))
	b.do(stepsOf(2))
	b.do(delivers(0), granted(1, 6, who))
}

// The fourth: a Poll that is doubled, and one of an old session.
func TestExampleWholePoll(t *testing.T) {
	b := made(t, config())
	b.do(submits(plain()), submitted(1))
	b.does(rounds(2))
	b.does([]api.Step{stepsOf(2), dups(0), dups(0), delivers(0)}, granted(1, 2, runnerAt(0, 1)))
	b.does([]api.Step{delivers(0)})
	poll := api.Msg{Kind: api.MsgPoll, Session: 1, Number: 1}
	offer := api.Msg{Kind: api.MsgOffer, Session: 1, Number: 1, Job: 1, Badge: 2, Program: plain()}
	b.says(poll, offer, offer)
	b.does([]api.Step{crashes(0), starts(0), delivers(0)}, down(api.Addr{}), up(api.Addr{}), shown(1, 2, api.Held, api.Result{}))
	b.says(offer, offer, api.Msg{Kind: api.MsgStale, Session: 1, Number: 1})
	b.does([]api.Step{delivers(0), delivers(0), delivers(0)})
	if l, _ := b.x.Runner(0); l.Badge != 2 || l.Session != 1 {
		t.Fatalf("%+v", l)
	}
}

// The fifth: a runner crashes and starts.
func TestExampleWholeLife(t *testing.T) {
	b := working(t, config(), plain())
	b.step(stepsOf(2))
	for len(b.places(api.MsgAck)) == 0 {
		b.step(delivers(0))
	}
	b.does([]api.Step{crashes(2), starts(2)}, down(runnerAt(0, 1)), up(runnerAt(0, 2)))
	for len(b.x.Bag()) > 0 {
		b.step(delivers(0))
	}
	if l, _ := b.x.Runner(0); l != (api.Look{Life: 2}) {
		t.Fatalf("%+v", l)
	}
	left, _ := b.x.Leases()
	for range left[0].Left - 1 {
		b.do(ticks(0))
	}
	b.do(ticks(0), expired(1, 2))
}

// The sixth: the badge of the first of two runners ran out, and the second one has claimed the artefact.
func TestExampleWholeRefused(t *testing.T) {
	b := made(t, two())
	a, z := runnerAt(0, 1), runnerAt(1, 1)
	b.do(submits(sample()), submitted(1))
	b.does([]api.Step{stepsOf(2), delivers(0), delivers(0), stepsOf(3), delivers(0), delivers(0)})
	b.does([]api.Step{stepsOf(2), delivers(0), delivers(0), stepsOf(2)}, granted(1, 3, a), emitted(a, 1, 3, 0, "1p0"), wrote(a, 1, 3, 1, "1p0"))
	for range 39 {
		b.do(ticks(0))
	}
	b.do(ticks(0), expired(1, 3))
	b.does([]api.Step{stepsOf(3), delivers(4), delivers(4)}, granted(1, 4, z))
	b.do(stepsOf(3), emitted(z, 1, 4, 0, "1p0"), wrote(z, 1, 4, 1, "1p0"))
	b.underWay(5, 6, 6, 3, 5, 6, 6, 3)
	b.does([]api.Step{delivers(5), delivers(5)}, admitted(1, 4, 0, ""), admitted(1, 4, 1, "1p0"))
	b.do(delivers(0)) // the first one's chunk is not stored
	b.does([]api.Step{delivers(0), delivers(0)})
	b.underWay(3, 5, 3, 15, 15, 16, 16)
	b.do(delivers(0)) // and its Beat is told Gone
	b.underWay(5, 3, 15, 15, 16, 16, 12)
	b.do(delivers(4))
	if l, _ := b.x.Runner(0); l.Job != 0 {
		t.Fatalf("%+v", l)
	}
	if l, _ := b.x.Runner(1); l.Badge != 4 {
		t.Fatalf("%+v", l)
	}
	b.do(delivers(0), stored(1, 4, 0, "1p0"))
	if r := b.row(1); r.Status != api.Held || r.Badge != 4 {
		t.Fatalf("%+v", r)
	}
}

// The seventh: chunks arrive in another order.
func TestExampleWholeChunks(t *testing.T) {
	b := working(t, config(), packed("fuel 9; set r0 1p0; emit r0; emit r1; halt"))
	a := runnerAt(0, 1)
	b.do(stepsOf(2), emitted(a, 1, 2, 0, "1p0"), emitted(a, 1, 2, 1, "0"))
	b.underWay(5, 5, 6, 3)
	b.do(delivers(1))
	ack := func(n int) api.Msg { return api.Msg{Kind: api.MsgAck, Badge: 2, Count: n} }
	b.does([]api.Step{drops(2), drops(1), delivers(0)}, stored(1, 2, 0, "1p0", "0"))
	b.says(ack(0), ack(2))
}

// The eighth: a job whose attempts have all run out is lost, and a result that comes then is told Gone.
func TestExampleWholeLost(t *testing.T) {
	c := config()
	c.Attempts, c.Lease = 1, 5
	b := working(t, c, plain())
	b.step(stepsOf(2))
	for len(b.places(api.MsgDone)) == 0 {
		if len(b.x.Bag()) > 0 {
			b.step(delivers(0))
		} else {
			b.step(stepsOf(2))
		}
	}
	b.does([]api.Step{ticks(0), ticks(0), ticks(0), ticks(0)})
	b.do(ticks(0), lost(1, 2))
	for len(b.x.Bag()) > 1 {
		b.step(drops(0))
	}
	b.do(delivers(0))
	b.underWay(12)
	b.do(delivers(0))
	if l, _ := b.x.Runner(0); l.Job != 0 || b.row(1).Status != api.Lost || !b.x.Settled() {
		t.Fatalf("%+v", l)
	}
}

// The ninth: bytes that are no message.
func TestExampleWholeBytes(t *testing.T) {
	b := working(t, two(), plain())
	twin := b.clone()
	for n := range 4 {
		b.does([]api.Step{injects(n, ""), injects(n, "\x00"), injects(n, "\xff\xff"), injects(n, strings.Repeat("\x05", 3000))})
	}
	alike(twin, b)
}
