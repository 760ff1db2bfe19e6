package measure_test

import (
	"fmt"
	"math"
	"slices"
	"testing"

	"gaffer/api"
	"gaffer/cluster"
	"gaffer/measure"
	"gaffer/wire"
)

// sample tells a chunk and a piece, and ends.
func sample() string { return packed("fuel 9; set r0 1p0; emit r0; write r0; halt") }

// Full hangs on the lease alone, in each config that may be.
func TestP22_1Full(t *testing.T) {
	for lease := 1; lease <= 256; lease++ {
		c := config()
		c.Lease = lease
		if n, e := measure.Full(c); n != 2064+lease || e != api.OK {
			t.Fatalf("Full of the lease %d: %d, %v", lease, n, e)
		}
	}
	rnd := newRand(1)
	for range 1000 {
		c := anyConfig(rnd)
		if n, e := measure.Full(c); n != 2064+c.Lease || e != api.OK {
			t.Fatalf("Full(%+v): %d, %v", c, n, e)
		}
	}
}

// A config that may not be is refused, whichever of its numbers it is.
func TestP22_1Refused(t *testing.T) {
	fields := []struct {
		at          func(c *api.Config) *int
		least, most int
	}{
		{func(c *api.Config) *int { return &c.Runners }, 1, 8},
		{func(c *api.Config) *int { return &c.Lease }, 1, 256},
		{func(c *api.Config) *int { return &c.Resend }, 1, 16},
		{func(c *api.Config) *int { return &c.Attempts }, 1, 8},
		{func(c *api.Config) *int { return &c.Window }, 1, 8},
		{func(c *api.Config) *int { return &c.Quantum }, 1, 64},
		{func(c *api.Config) *int { return &c.Block }, 1, 16},
		{func(c *api.Config) *int { return &c.Every }, 1, 16},
		{func(c *api.Config) *int { return &c.Half }, 160, 512},
	}
	for i, f := range fields {
		for _, n := range []int{math.MinInt, -1, 0, f.least - 1, f.least, f.most, f.most + 1, 1 << 40, math.MaxInt} {
			c := config()
			*f.at(&c) = n
			full, e := measure.Full(c)
			if n < f.least || n > f.most {
				if full != 0 || e != api.ErrArg {
					t.Errorf("the number %d of the config is %d: %d, %v", i, n, full, e)
				}
			} else if full != 2064+c.Lease || e != api.OK {
				t.Errorf("the number %d of the config is %d: %d, %v", i, n, full, e)
			}
		}
	}
	if n, e := measure.Full(api.Config{}); n != 0 || e != api.ErrArg {
		t.Errorf("Full of no config: %d, %v", n, e)
	}
}

// Nothing is measured where the coordinator is down, or each runner; one runner that is up is enough, whichever it is. The error comes ahead of what is settled.
func TestP22_2Down(t *testing.T) {
	c := config()
	c.Runners = 3
	for _, jobs := range []int{0, 1} {
		for down := range 16 {
			x := fleet(t, c)
			for range jobs {
				do(x, submits(sample()))
			}
			up := 3
			for i, n := range []int{0, 2, 3, 4} {
				if down>>i&1 == 1 {
					do(x, crashes(n))
				}
				if down>>i&1 == 1 && n > 0 {
					up--
				}
			}
			if down&1 == 1 || up == 0 {
				isDown(t, x)
				continue
			}
			units(t, x, 4208*jobs+up)
		}
	}
	// The power goes, and comes again.
	x := fleet(t, config())
	do(x, cuts(1, 0), submits(sample()))
	isDown(t, x)
	do(x, starts(0))
	units(t, x, 1)
}

// A job from its submission to its end, round by round: what each attempt, each instruction, each chunk and each piece costs.
func TestP22_2Rounds(t *testing.T) {
	x := fleet(t, config())
	do(x, submits(sample()))
	for round, want := range []int{
		4209,                      // it is queued; the runner has no session
		4209,                      // its welcome is under way
		4208,                      // its session is known
		2104 + 7 + 2048,           // the offer is under way
		2104 + 5 + 1 + 2048,       // it is taken: the claim is a piece
		2104 + 5 + 3 + 2048 - 6,   // three instructions are done: a chunk, and a piece more
		2104 + 5 + 2048 - 6,       // all of these are acked
		1,                         // the job is recorded; the runner holds its badge, and nobody else knows of it
		0, 0, 0, 0, 0, 0, 0, 0, 0, // the runner polls
	} {
		if round > 0 {
			do(x, api.Step{Kind: api.StRound})
		}
		units(t, x, want)
	}
	// A machine that is over costs nothing more, however few instructions it has done.
	x = fleet(t, config())
	do(x, submits(packed("fuel 9; emit r0; write r0; halt")), settles(4), stepsOf(2))
	units(t, x, 2104+5+3+2044)
	for i := len(x.Bag()); i > 0; i-- {
		do(x, delivers(0))
	}
	for len(x.Bag()) > 1 { // the last one is that of the beat
		do(x, delivers(0))
	}
	units(t, x, 2104+5+2044)
	do(x, stepsOf(2))
	units(t, x, 2104+5)
}

// Attempts that are left, of more jobs than one.
func TestP22_2Attempts(t *testing.T) {
	c := config()
	c.Attempts, c.Lease = 5, 1
	full := 2064 + 1
	x := fleet(t, c)
	do(x, submits(sample()), submits(sample()), submits(sample()))
	units(t, x, 15*full+1)
	do(x, settles(3))
	units(t, x, 14*full+2048+7)
	do(x, ticks(0)) // it is queued again, and the offer comes to nothing
	units(t, x, 14*full+1)
	for left := 13; left > 0; left-- {
		do(x, crashes(2), starts(2)) // the grant holds for the one tick of its lease
		for held := false; !held; {
			do(x, round())
			v, _ := x.View()
			held = slices.ContainsFunc(v.Jobs, func(p api.Place) bool { return p.Row.Status == api.Held })
		}
		units(t, x, left*full+2048+7)
		do(x, ticks(0))
		units(t, x, left*full+1)
	}
}

// granted is a fleet whose runner has a session, and whose job was granted under the badge 2; the offer is the only thing under way.
func granted(t *testing.T) *cluster.Cluster {
	t.Helper()
	x := fleet(t, config())
	do(x, submits(sample()), settles(3))
	if l := mail(x); !slices.Equal(l, []string{"offer 1 1 2"}) {
		t.Fatalf("under way: %v", l)
	}
	return x
}

// mail is what is under way, in short: kind, session, number, badge.
func mail(x *cluster.Cluster) []string {
	var l []string
	for _, d := range x.Bag() {
		m, _ := wire.Decode(d.Data)
		kind := []string{"", "hello", "poll", "beat", "done", "chunk", "put", "welcome", "stale", "offer", "none", "alive", "gone", "recorded", "ack", "took", "refused"}[m.Kind]
		l = append(l, fmt.Sprint(kind, " ", m.Session, " ", m.Number, " ", m.Badge))
	}
	return l
}

// lies holds that just this is under way.
func lies(t *testing.T, x *cluster.Cluster, want ...string) {
	t.Helper()
	if l := mail(x); !slices.Equal(l, want) {
		t.Fatalf("under way: %v, not %v", l, want)
	}
}

// An offer that comes: under way, or as the reply that is kept, or of a session that is not known any more.
func TestP22_2Offer(t *testing.T) {
	const offer, first = 2104 + 7 + 2048, 2104
	x := granted(t)
	units(t, x, offer)
	kept := x.Clone()
	do(kept, drops(0))
	units(t, kept, offer) // the reply is said again when the poll is
	gone := x.Clone()
	do(gone, crashes(0), starts(0))
	units(t, gone, offer+2) // it is under way; the session is not known
	do(gone, drops(0))
	units(t, gone, first+40+2) // the lease must run out
	for range 7 {
		do(gone, ticks(0))
	}
	units(t, gone, first+33+2)
	taken := x.Clone()
	do(taken, dups(0), delivers(0))
	units(t, taken, first+5+1+2048)
	down := x.Clone()
	do(down, crashes(2), starts(2))
	units(t, down, first+40+1) // another life: it was offered nothing
	late := x.Clone()
	for range 40 {
		do(late, ticks(0))
	}
	units(t, late, first+1) // what is offered is not held: one more, till it is known
	do(late, drops(0))
	units(t, late, first+1)
	do(late, crashes(0), starts(0))
	units(t, late, first+2)
}

// Of replies to a poll the one ahead counts: behind a stale one an offer comes to nothing.
func TestP22_2StaleAhead(t *testing.T) {
	x := fleet(t, config())
	do(x, submits(sample()), settles(2), stepsOf(2), dups(0), delivers(0), crashes(0), starts(0), delivers(0))
	lies(t, x, "offer 1 1 2", "stale 1 1 0")
	units(t, x, 2104+7+2048+2)
	do(x, dups(0), drops(0))
	lies(t, x, "stale 1 1 0", "offer 1 1 2")
	units(t, x, 2104+40+2)
	do(x, drops(0))
	units(t, x, 2104+7+2048+2)
	do(x, dups(0))
	units(t, x, 2104+7+2048+2)
}

// Replies of other numbers, of other sessions and to other addresses are none to this poll; nor is one to a request that is no poll.
func TestP22_2OtherReplies(t *testing.T) {
	x := fleet(t, config())
	do(x, settles(2), stepsOf(2), delivers(0), dups(0), delivers(0)) // none is said twice
	lies(t, x, "none 1 1 0")
	do(x, stepsOf(2), submits(sample()), dups(1), delivers(1))
	lies(t, x, "none 1 1 0", "poll 1 2 0", "offer 1 2 2")
	units(t, x, 2104+7+2048)
	do(x, drops(2))
	units(t, x, 2104+7+2048)
	do(x, delivers(1))
	lies(t, x, "none 1 1 0", "offer 1 2 2")
	do(x, dups(1), delivers(1))
	lies(t, x, "none 1 1 0", "offer 1 2 2")
	units(t, x, 2104+5+1+2048)
	// It drops the job, for it was recorded, and asks for the next one: the old offer is none to this poll.
	for range 12 {
		do(x, stepsOf(2))
		for k := len(x.Bag()) - 1; k > 1; k-- {
			do(x, delivers(2))
		}
	}
	do(x, stepsOf(2))
	l, _ := x.Runner(0)
	if l.Job != 0 || l.Waits < 4 || !x.Settled() || !slices.Equal(mail(x)[:2], []string{"none 1 1 0", "offer 1 2 2"}) {
		t.Fatalf("%+v", l)
	}
	units(t, x, 0)
}

// A session that is not known, and a welcome to one.
func TestP22_2Sessions(t *testing.T) {
	x := fleet(t, config())
	do(x, submits(sample()), round())
	lies(t, x, "welcome 1 0 0")
	units(t, x, 4209)
	do(x, crashes(0), starts(0))
	units(t, x, 4208+3) // the welcome is to a session that is not known
	told := x.Clone()
	do(told, delivers(0))
	units(t, told, 4208+2)
	do(x, ticks(2), stepsOf(2), ticks(2), stepsOf(2), delivers(1))
	lies(t, x, "welcome 1 0 0", "welcome 5 0 0")
	units(t, x, 4208+3) // the one or the other is
	first := x.Clone()
	do(first, delivers(0))
	units(t, first, 4208+2)
	do(first, delivers(0))
	units(t, first, 4208+2) // it waits for no welcome
	do(x, delivers(1))
	units(t, x, 4208)
	do(x, delivers(0))
	units(t, x, 4208)
	// Another life, to whose address no welcome is under way.
	y := fleet(t, config())
	do(y, submits(sample()), round(), crashes(0), starts(0), crashes(2), starts(2))
	lies(t, y, "welcome 1 0 0")
	units(t, y, 4209)
}

// Sessions are told apart by slot, life and number: two runners, one of which has a session of its own.
func TestP22_2Slots(t *testing.T) {
	c := config()
	c.Runners = 2
	x := fleet(t, c)
	do(x, submits(sample()), stepsOf(3), delivers(0))
	lies(t, x, "welcome 1 0 0")
	units(t, x, 4208+2)
	do(x, crashes(0), starts(0))
	units(t, x, 4208+1+3)
	do(x, stepsOf(2), delivers(1))
	lies(t, x, "welcome 1 0 0", "welcome 5 0 0")
	units(t, x, 4208+1+3)
	do(x, delivers(0))
	units(t, x, 4208+1+2)
	do(x, delivers(0))
	units(t, x, 4208+2)
	do(x, crashes(3))
	units(t, x, 4208)
	do(x, starts(3))
	units(t, x, 4208+1)
}

// working is a fleet whose runner holds the job 1 under the badge 2, and has just said its first beat; nothing else is under way.
func working(t *testing.T) *cluster.Cluster {
	t.Helper()
	x := granted(t)
	do(x, delivers(0), stepsOf(2))
	lies(t, x, "chunk 0 0 2", "put 0 0 2", "put 0 0 2", "beat 1 2 2")
	do(x, drops(0), drops(0), drops(0))
	return x
}

// A lease that nobody holds runs out; a beat that is under way renews it, if its session acts on it.
func TestP22_2Beaten(t *testing.T) {
	x := working(t)
	do(x, ticks(0), ticks(0), ticks(0))
	units(t, x, 2104+5+3+2042)
	do(x, crashes(2), starts(2))
	units(t, x, 2104+37+40+1)
	dropped := x.Clone()
	do(dropped, drops(0))
	units(t, dropped, 2104+37+1)
	again := x.Clone()
	do(again, dups(0), delivers(0))
	lies(t, again, "beat 1 2 2", "alive 1 2 0")
	units(t, again, 2104+40+1) // the number is the last one already
	other := x.Clone()
	do(other, stepsOf(2), delivers(1))
	lies(t, other, "beat 1 2 2", "welcome 3 0 0")
	units(t, other, 2104+37+1) // the slot has another life
	gone := x.Clone()
	do(gone, crashes(0), starts(0))
	units(t, gone, 2104+40+1) // the session is not known
	down := x.Clone()
	for range 37 {
		do(down, ticks(0))
	}
	units(t, down, 2104+1) // the job is queued again: nothing is left of the attempt
}

// A beat ahead of its number is not acted on.
func TestP22_2BeatAhead(t *testing.T) {
	x := working(t)
	do(x, dups(0), delivers(0), delivers(1), stepsOf(2))
	if l, _ := x.Runner(0); l.Waits != 3 {
		t.Fatalf("%+v", l)
	}
	do(x, crashes(2), starts(2))
	lies(t, x, "beat 1 2 2", "beat 1 3 2")
	units(t, x, 2104+40+40+1)
	do(x, drops(1))
	units(t, x, 2104+40+1)
}

// The badge of the job that a runner holds, or is offered, may be held by nobody, or by another one.
func TestP22_2NotHeld(t *testing.T) {
	c := config()
	c.Runners, c.Lease = 2, 4
	const full = 2068
	x := fleet(t, c)
	do(x, submits(sample()))
	for _, n := range []int{2, 3} {
		do(x, stepsOf(n), delivers(0), delivers(0))
	}
	units(t, x, 2*full)
	do(x, stepsOf(2), delivers(0), delivers(0)) // the first one holds the job under the badge 3
	units(t, x, full+5+1+2048)
	do(x, ticks(0), ticks(0), ticks(0), ticks(0))
	units(t, x, full+1) // its badge ran out
	do(x, stepsOf(3), delivers(0))
	lies(t, x, "offer 2 1 4")
	units(t, x, 7+2048+1) // the second one is offered the job anew
	do(x, delivers(0))
	units(t, x, 5+1+2048+1)
	do(x, ticks(0), ticks(0), ticks(0), ticks(0))
	units(t, x, 2) // it is lost: each holds a badge that does not hold
	of(t, x, 0)
}

// Of of the fleets of a job's way, by hand: so many Units, and in how many rounds they fall.
func TestP22_3Rounds(t *testing.T) {
	x := fleet(t, config())
	do(x, submits(sample()))
	for round, want := range [][2]int{{4209, 2}, {4209, 1}, {4208, 1}, {4159, 1}, {4158, 1}, {4154, 1}, {4151, 1}} {
		if round > 0 {
			do(x, api.Step{Kind: api.StRound})
		}
		of(t, x, 6*want[0]+want[1])
	}
	do(x, round())
	units(t, x, 1)
	of(t, x, 0)
}

// The rounds till Units fall, and how great each one of them is, hang on Resend.
func TestP22_3Resend(t *testing.T) {
	for resend := 1; resend <= 16; resend++ {
		c := config()
		c.Resend = resend
		x := fleet(t, c)
		do(x, submits(sample()), stepsOf(2), drops(0)) // its hello is lost: it is said anew behind so many ticks
		of(t, x, 4209*(resend+4)+resend+1)
		do(x, round())
		of(t, x, 4209*(resend+4)+resend)
		y := fleet(t, c)
		do(y, submits(sample()), settles(2), crashes(0), starts(0), stepsOf(2), drops(0)) // its poll is lost, and stale; then come hello, welcome
		of(t, y, 4210*(resend+4)+resend+1)
		do(y, settles(resend+1))
		of(t, y, 4209*(resend+4)+2)
	}
}

// Units that are refused count as 0: the power goes in the next round.
func TestP22_3Cut(t *testing.T) {
	x := fleet(t, config())
	do(x, submits(sample()), cuts(1, 0))
	of(t, x, 4209*6+1)
	do(x, cuts(0, 0))
	of(t, x, 4209*6+2)
	do(x, cuts(2, 5)) // the second write: that of the same record's head
	of(t, x, 4209*6+1)
	do(x, cuts(3, 5)) // the grant's
	of(t, x, 4209*6+2)
	do(x, round(), round())
	of(t, x, 4208*6+1)
	do(x, round())
	isDown(t, x)
}

// A fleet stays as it is when it is measured, also what is set on its disk.
func TestP22_3Stays(t *testing.T) {
	for seed := range int64(60) {
		rnd := newRand(seed)
		x := walked(t, rnd, rnd.Intn(200))
		if x.Up(0) && seed%3 == 0 {
			do(x, cuts(1+rnd.Intn(4), 64))
		}
		twin, ahead := x.Clone(), show(x)
		for range 3 {
			measure.Of(x)
			measure.Units(x)
		}
		if !same(show(x), ahead) {
			t.Fatalf("seed %d: it has changed", seed)
		}
		do(x, round(), round(), round())
		do(twin, round(), round(), round())
		if !same(show(x), show(twin)) {
			t.Fatalf("seed %d: it goes on otherwise", seed)
		}
	}
}

// The reply that is kept counts if it is that to the number that the runner waits for: not, where the sink has refused its pieces, and its beat is lost.
func TestP22_2LastReply(t *testing.T) {
	c := config()
	c.Runners, c.Lease = 2, 4
	x := fleet(t, c)
	do(x, submits(sample()))
	for _, n := range []int{2, 3} {
		do(x, stepsOf(n), delivers(0), delivers(0))
	}
	do(x, stepsOf(2), delivers(0), delivers(0), stepsOf(2))
	lies(t, x, "chunk 0 0 3", "put 0 0 3", "put 0 0 3", "beat 1 2 3")
	do(x, drops(0), drops(1), drops(1), ticks(0), ticks(0), ticks(0), ticks(0))
	do(x, stepsOf(3), delivers(1), delivers(1), stepsOf(3))
	lies(t, x, "put 0 0 3", "chunk 0 0 4", "put 0 0 4", "put 0 0 4", "beat 2 2 4")
	do(x, delivers(2), delivers(0))
	units(t, x, 5+3+2042+1)
	do(x, delivers(len(x.Bag())-1)) // it is refused
	if l, _ := x.Runner(0); l.Job != 0 || l.Waits != 2 {
		t.Fatalf("%+v", l)
	}
	units(t, x, 5+3+2042)
}

// A runner holds a badge that is recorded, while a badge that it never knew of is held by its address.
func TestP22_2AnotherHeld(t *testing.T) {
	x := granted(t)
	do(x, submits(sample()), drops(0), crashes(0), starts(0))
	units(t, x, 2104+40+2*2104+2)
	rounds, done := 0, false
	for !done {
		do(x, round())
		rounds++
		v, _ := x.View()
		done = v.Jobs[1].Row.Status == api.Recorded
	}
	lies(t, x, "recorded 5 3 0")
	units(t, x, 2104+40-rounds+1)
	do(x, delivers(0))
	units(t, x, 2104+40-rounds)
}
