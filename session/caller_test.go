package session_test

import (
	"math"
	"math/rand"
	"strings"
	"testing"

	"gaffer/api"
	"gaffer/session"
)

var (
	poll = api.Msg{Kind: api.MsgPoll}
	beat = api.Msg{Kind: api.MsgBeat, Badge: 3}
	done = api.Msg{Kind: api.MsgDone, Badge: 3, Count: 2, Result: api.Result{Bits: 5}}

	// Kinds of all sorts, those that no message has too.
	kinds = []int{math.MinInt, -9, -2, -1, 0, 1, 2, 3, 4, 5, 6, 7, 8, 9, 10, 11, 12, 13, 14, 15, 16, 17, 18, 258, 1<<32 + 2, math.MaxInt}
)

func welcome(number int) api.Msg { return api.Msg{Kind: api.MsgWelcome, Session: number} }

func msg(kind, number, n int) api.Msg { return api.Msg{Kind: kind, Session: number, Number: n} }

// inSession is a caller that was welcomed to that session.
func inSession(t *testing.T, resend, number int) (*session.Caller, *callerWords) {
	t.Helper()
	c, w := madeCaller(t, resend)
	sameCallerHello(t, c, w)
	if what := sameHear(t, c, w, welcome(number)); what != session.Welcomed {
		t.Fatalf("Hear: %d", what)
	}
	return c, w
}

func TestNumbers(t *testing.T) {
	if session.Nothing != 0 || session.Welcomed != 1 || session.Lapsed != 2 || session.Answered != 3 ||
		session.Old != 0 || session.Known != 1 || session.Fresh != 2 ||
		session.Pass != 0 || session.Stale != 1 || session.Again != 2 || session.New != 3 {
		t.Error("numbers of session")
	}
	if api.ErrArg != 1 || api.ErrSessionSlot != 130 || api.ErrSessionBusy != 131 || api.ErrSessionNone != 132 || api.ErrSessionTimer != 133 ||
		api.MaxNumber != top || api.MaxRunners != 8 || api.MaxResend != 16 {
		t.Error("numbers of api")
	}
}

// The chapter's table of examples, the caller's rows, call by call.
func TestP13CallerExamples(t *testing.T) {
	for _, n := range []int{0, 17} {
		if c, e := session.NewCaller(n); c != nil || e != api.ErrSessionTimer {
			t.Errorf("NewCaller(%d): %v, %v", n, c, e)
		}
	}
	c, _ := madeCaller(t, 2)
	if m, is := c.Due(); is || m != (api.Msg{}) || c.Session() != 0 || c.Waits() != 0 || c.Busy() || c.Ask(poll) != api.ErrSessionNone {
		t.Error("a new one")
	}
	if a, b := c.Hello(), c.Hello(); a != api.OK || b != api.ErrSessionBusy {
		t.Errorf("Hello: %v, %v", a, b)
	}
	for i, want := range []bool{true, false, false, true} {
		if i >= 2 {
			c.Tick()
		}
		if m, is := c.Due(); is != want || is && m != (api.Msg{Kind: api.MsgHello}) {
			t.Errorf("Due %d: %+v, %v", i, m, is)
		}
	}
	if c.Hear(welcome(5)) != session.Welcomed || c.Session() != 5 || c.Ask(poll) != api.OK || c.Waits() != 1 {
		t.Error("welcomed")
	}
	if m, is := c.Due(); !is || m != msg(api.MsgPoll, 5, 1) {
		t.Errorf("Due: %+v, %v", m, is)
	}
	if c.Hear(msg(api.MsgNone, 5, 2)) != session.Nothing || c.Hear(msg(api.MsgAlive, 5, 1)) != session.Nothing || c.Hear(msg(api.MsgNone, 5, 1)) != session.Answered {
		t.Error("answered")
	}
	if c.Ask(beat) != api.OK || c.Hear(msg(api.MsgStale, 5, 2)) != session.Lapsed || c.Session() != 0 || c.Ask(poll) != api.ErrSessionNone {
		t.Error("lapsed")
	}
}

func TestP13_1EveryResend(t *testing.T) {
	for resend := 1; resend <= 16; resend++ {
		c, w := madeCaller(t, resend)
		sameCaller(t, c, w)
		for range 3 {
			sameTick(t, c, w)
			sameDue(t, c, w)
		}
		for _, m := range []api.Msg{poll, beat, done} {
			if e := sameCallerAsk(t, c, w, m); e != api.ErrSessionNone {
				t.Errorf("Ask: %v", e)
			}
		}
	}
}

func TestP13_1WrongResend(t *testing.T) {
	for _, resend := range []int{0, -1, -16, 17, 18, 32, 1<<32 + 1, top, math.MinInt, math.MaxInt} {
		if c, e := session.NewCaller(resend); c != nil || e != api.ErrSessionTimer {
			t.Errorf("NewCaller(%d): %v, %v", resend, c, e)
		}
	}
}

// Hello gives the session up, asked in or not; what was asked in it is over with it.
func TestP13_2HelloEndsTheSession(t *testing.T) {
	for asks := range 3 {
		c, w := inSession(t, 2, 5)
		for n := 1; n <= asks; n++ {
			sameCallerAsk(t, c, w, poll)
			sameHear(t, c, w, msg(api.MsgNone, 5, n))
		}
		if e := sameCallerHello(t, c, w); e != api.OK || c.Session() != 0 || c.Waits() != 0 || !c.Busy() {
			t.Errorf("Hello: %v", e)
		}
		if m, is := sameDue(t, c, w); !is || m != (api.Msg{Kind: api.MsgHello}) {
			t.Errorf("Due: %+v", m)
		}
		sameHear(t, c, w, welcome(6))
		sameCallerAsk(t, c, w, poll)
		if m, is := sameDue(t, c, w); !is || m != msg(api.MsgPoll, 6, 1) {
			t.Errorf("Due: %+v", m)
		}
	}
}

// Each kind is ErrArg or none, whatever is under way: ErrArg is named first, then ErrSessionBusy, then ErrSessionNone.
func TestP13_2ErrorsInTheirOrder(t *testing.T) {
	stands := []struct {
		make func() (*session.Caller, *callerWords)
		want api.Errno
	}{
		{func() (*session.Caller, *callerWords) { return madeCaller(t, 3) }, api.ErrSessionNone},
		{func() (*session.Caller, *callerWords) { return inSession(t, 3, 7) }, api.OK},
		{func() (*session.Caller, *callerWords) {
			c, w := madeCaller(t, 3)
			sameCallerHello(t, c, w)
			return c, w
		}, api.ErrSessionBusy},
		{func() (*session.Caller, *callerWords) {
			c, w := inSession(t, 3, 7)
			sameCallerAsk(t, c, w, beat)
			sameDue(t, c, w)
			return c, w
		}, api.ErrSessionBusy},
		{func() (*session.Caller, *callerWords) {
			c, w := inSession(t, 3, 7)
			sameCallerAsk(t, c, w, beat)
			sameHear(t, c, w, msg(api.MsgStale, 7, 1))
			return c, w
		}, api.ErrSessionNone},
	}
	for i, s := range stands {
		for _, kind := range kinds {
			want := api.ErrArg
			if kind == 2 || kind == 3 || kind == 4 {
				want = s.want
			}
			c, w := s.make()
			if e := sameCallerAsk(t, c, w, api.Msg{Kind: kind, Badge: 9}); e != want {
				t.Errorf("stand %d: Ask of the kind %d: %v, not %v", i, kind, e, want)
			}
			for range 4 { // an error changed nothing: not what is said, nor when
				sameDue(t, c, w)
				sameTick(t, c, w)
			}
		}
		c, w := s.make()
		want := api.OK
		if s.want == api.ErrSessionBusy {
			want = s.want
		}
		if e := sameCallerHello(t, c, w); e != want {
			t.Errorf("stand %d: Hello: %v, not %v", i, e, want)
		}
		for range 4 {
			sameDue(t, c, w)
			sameTick(t, c, w)
		}
	}
}

// The request's other fields are taken as they are, also such as its kind does not have; its own Session and Number are not.
func TestP13_2OtherFieldsAsTheyAre(t *testing.T) {
	full := api.Msg{Session: -4, Number: 99, Job: -1, Badge: math.MaxInt, Index: math.MinInt, Count: 7, Result: api.Result{Code: -3, Bits: math.MaxUint64}, Text: strings.Repeat("\x00\xff", 3000), Program: "no program"}
	for _, kind := range []int{api.MsgPoll, api.MsgBeat, api.MsgDone} {
		c, w := inSession(t, 1, 5)
		for n := 1; n <= 3; n++ {
			m := full
			m.Kind = kind
			if e := sameCallerAsk(t, c, w, m); e != api.OK {
				t.Fatalf("Ask: %v", e)
			}
			m.Session, m.Number = 5, n
			for range 3 { // the same each time that it is said
				if got, is := sameDue(t, c, w); !is || got != m {
					t.Fatalf("Due: %+v, %v, not %+v", got, is, m)
				}
				sameTick(t, c, w)
			}
			if what := sameHear(t, c, w, msg(fitting[kind][n%2], 5, n)); what != session.Answered {
				t.Fatalf("Hear: %d", what)
			}
		}
	}
}

// The last number that may be is asked for, and none behind it; with the next session they begin anew.
func TestP13_2TheLastNumber(t *testing.T) {
	for _, ahead := range []int{1, 2, 5} {
		c, w := inSession(t, 2, 5)
		c.SetLast(top - ahead)
		w.skipped = top - ahead
		for n := top - ahead + 1; n <= top; n++ {
			if e := sameCallerAsk(t, c, w, poll); e != api.OK || c.Waits() != n {
				t.Fatalf("the %d-th: %v", n, e)
			}
			if m, is := sameDue(t, c, w); !is || m != msg(api.MsgPoll, 5, n) {
				t.Fatalf("Due: %+v", m)
			}
			if e := sameCallerAsk(t, c, w, poll); e != api.ErrSessionBusy {
				t.Fatalf("Ask: %v", e)
			}
			if what := sameHear(t, c, w, msg(api.MsgNone, 5, n)); what != session.Answered {
				t.Fatalf("Hear: %d", what)
			}
		}
		for range 3 {
			if e := sameCallerAsk(t, c, w, done); e != api.ErrSessionNone || c.Session() != 5 {
				t.Fatalf("behind the last one: %v", e)
			}
			if e := sameCallerAsk(t, c, w, api.Msg{}); e != api.ErrArg {
				t.Fatalf("Ask: %v", e)
			}
			sameDue(t, c, w)
		}
		sameCallerHello(t, c, w)
		sameHear(t, c, w, welcome(6))
		if e := sameCallerAsk(t, c, w, done); e != api.OK || c.Waits() != 1 {
			t.Fatalf("in the next session: %v", e)
		}
	}
}

// What is under way is said at once, and then with every resend-th tick, till it is answered, be it a Hello or a request.
func TestP13_3EveryResendTicks(t *testing.T) {
	for resend := 1; resend <= 16; resend++ {
		for _, first := range []api.Msg{{Kind: api.MsgHello}, poll, beat, done} {
			c, w := inSession(t, resend, 5)
			if first.Kind == api.MsgHello {
				sameCallerHello(t, c, w)
			} else {
				sameCallerAsk(t, c, w, first)
			}
			for tick := range 5 * resend {
				if _, is := sameDue(t, c, w); is != (tick%resend == 0) {
					t.Fatalf("resend %d: behind %d ticks: %v", resend, tick, is)
				}
				if _, is := sameDue(t, c, w); is {
					t.Fatalf("resend %d: twice behind %d ticks", resend, tick)
				}
				if want := resend - tick%resend; c.Timer() != want {
					t.Fatalf("resend %d: Timer behind %d ticks: %d", resend, tick, c.Timer())
				}
				sameTick(t, c, w)
			}
		}
	}
}

// Ticks that nobody asks Due behind are not saved up.
func TestP13_3TicksAreNotSaved(t *testing.T) {
	c, w := inSession(t, 3, 5)
	for range 10 {
		sameTick(t, c, w)
	}
	sameCallerAsk(t, c, w, poll)
	for range 10 {
		sameTick(t, c, w)
	}
	for i, want := range []bool{true, false, false, true} {
		if i > 0 {
			sameTick(t, c, w)
		}
		if _, is := sameDue(t, c, w); is != want {
			t.Errorf("%d: %v", i, is)
		}
	}
	for range 10 {
		sameTick(t, c, w)
	}
	if _, is := sameDue(t, c, w); !is || c.Timer() != 3 {
		t.Errorf("Timer %d", c.Timer())
	}
}

// Whichever way something ends or begins, the timer is 0: what comes next is said at once.
func TestP13_3TheTimerIsNoughtBehindAnEnd(t *testing.T) {
	for resend := 1; resend <= 16; resend++ {
		for ticks := range resend {
			c, w := madeCaller(t, resend)
			begin := func(ask func()) {
				t.Helper()
				ask()
				if _, is := sameDue(t, c, w); !is {
					t.Fatal("not said at once")
				}
				for range ticks {
					sameTick(t, c, w)
				}
			}
			hear := func(m api.Msg, want int) {
				t.Helper()
				if what := sameHear(t, c, w, m); what != want || c.Timer() != 0 || c.Busy() {
					t.Fatalf("resend %d, %d ticks: Hear(%+v): %d, Timer %d", resend, ticks, m, what, c.Timer())
				}
			}
			begin(func() { sameCallerHello(t, c, w) })
			hear(welcome(3), session.Welcomed)
			begin(func() { sameCallerAsk(t, c, w, beat) })
			hear(msg(api.MsgAlive, 3, 1), session.Answered)
			begin(func() { sameCallerAsk(t, c, w, done) })
			hear(msg(api.MsgStale, 3, 2), session.Lapsed)
			begin(func() { sameCallerHello(t, c, w) })
		}
	}
}

// Just MsgWelcome welcomes, and just to a session above all that there were; whatever else the message bears.
func TestP13_4Welcomed(t *testing.T) {
	numbers := []int{math.MinInt, -top, -5, -1, 0, 1, 2, 4, 5, 6, 7, top - 1, top, top + 1, math.MaxInt}
	for _, greatest := range []int{0, 1, 5, top} {
		for _, number := range numbers {
			for _, kind := range kinds {
				c, w := madeCaller(t, 2)
				sameCallerHello(t, c, w)
				if greatest > 0 {
					sameHear(t, c, w, welcome(greatest))
					sameCallerHello(t, c, w)
				}
				sameDue(t, c, w)
				want := session.Nothing
				if kind == 7 && number > greatest {
					want = session.Welcomed
				}
				m := api.Msg{Kind: kind, Session: number, Number: number, Badge: 3, Text: "x"}
				if what := sameHear(t, c, w, m); what != want {
					t.Fatalf("behind %d: Hear(%+v): %d", greatest, m, what)
				}
				if want == session.Welcomed && c.Session() != number {
					t.Fatalf("Session: %d", c.Session())
				}
				sameTick(t, c, w)
				sameDue(t, c, w)
			}
		}
	}
}

// The greatest session counts, not the last: it lasts over a lapse and a Hello, and over Welcomes that were refused.
func TestP13_4NoOldSession(t *testing.T) {
	c, w := madeCaller(t, 2)
	greatest := 0
	for _, number := range []int{5, 4, 5, 9, 6, 5, 9, 8, 10, 1, top, top, 11, top - 1} {
		if !c.Busy() {
			sameCallerHello(t, c, w)
		}
		want := session.Nothing
		if number > greatest {
			want, greatest = session.Welcomed, number
		}
		if what := sameHear(t, c, w, welcome(number)); what != want {
			t.Errorf("Welcome to %d: %d", number, what)
		}
		if want == session.Welcomed {
			sameCallerAsk(t, c, w, poll)
			sameHear(t, c, w, msg(api.MsgStale, number, 1))
		}
	}
}

// Every kind, at every request, with its session and number and with others: what it is, and that nothing changes if it is nothing.
func TestP13_4EveryMessageAtEveryRequest(t *testing.T) {
	for _, request := range []api.Msg{poll, beat, done} {
		for _, kind := range kinds {
			for _, number := range []int{-5, 0, 1, 2, 4, 5, 6, 1<<32 + 5, math.MaxInt} {
				for _, n := range []int{-2, 0, 1, 2, 3, 5, 1<<32 + 2, math.MaxInt} {
					c, w := inSession(t, 3, 5)
					sameCallerAsk(t, c, w, poll)
					sameHear(t, c, w, msg(api.MsgNone, 5, 1))
					sameCallerAsk(t, c, w, request)
					sameDue(t, c, w)
					sameTick(t, c, w)
					want := session.Nothing
					if number == 5 && n == 2 {
						want = whatIs(request.Kind, kind)
					}
					if what := sameHear(t, c, w, api.Msg{Kind: kind, Session: number, Number: n, Badge: 77}); what != want {
						t.Fatalf("%+v: Hear(%d, %d, %d): %d, not %d", request, kind, number, n, what, want)
					}
					sameAfterwards(t, c, w)
				}
			}
		}
	}
}

// whatIs tells by the chapter's words what a message is to a request whose session and number it bears.
func whatIs(request, reply int) int {
	if reply == 8 {
		return session.Lapsed
	}
	for _, pair := range [][2]int{{2, 9}, {2, 10}, {3, 11}, {3, 12}, {4, 12}, {4, 13}} {
		if pair == [2]int{request, reply} {
			return session.Answered
		}
	}
	return session.Nothing
}

// sameAfterwards lets both go on for a while.
func sameAfterwards(t *testing.T, c *session.Caller, w *callerWords) {
	t.Helper()
	for range 4 {
		sameDue(t, c, w)
		sameTick(t, c, w)
	}
	sameCallerAsk(t, c, w, beat)
	sameDue(t, c, w)
	sameCallerHello(t, c, w)
	sameDue(t, c, w)
}

// With nothing under way every message is nothing, in a session or without one; a reply that comes twice is one the first time alone.
func TestP13_4NothingUnderWay(t *testing.T) {
	stands := []func() (*session.Caller, *callerWords){
		func() (*session.Caller, *callerWords) { return madeCaller(t, 2) },
		func() (*session.Caller, *callerWords) { return inSession(t, 2, 5) },
		func() (*session.Caller, *callerWords) {
			c, w := inSession(t, 2, 5)
			sameCallerAsk(t, c, w, beat)
			sameHear(t, c, w, msg(api.MsgAlive, 5, 1))
			return c, w
		},
		func() (*session.Caller, *callerWords) {
			c, w := inSession(t, 2, 5)
			sameCallerAsk(t, c, w, beat)
			sameHear(t, c, w, msg(api.MsgStale, 5, 1))
			return c, w
		},
	}
	for i, stand := range stands {
		for _, kind := range kinds {
			for _, number := range []int{0, 5, 6} {
				for n := range 3 {
					c, w := stand()
					if what := sameHear(t, c, w, msg(kind, number, n)); what != session.Nothing {
						t.Fatalf("stand %d: Hear(%d, %d, %d): %d", i, kind, number, n, what)
					}
					sameAfterwards(t, c, w)
				}
			}
		}
	}
}

// A Hello is not answered by a Stale or a reply, not even by one that bears noughts, as the Hello does.
func TestP13_4HelloWaitsForAWelcome(t *testing.T) {
	for _, kind := range kinds {
		for _, number := range []int{0, 5} {
			for n := range 2 {
				c, w := inSession(t, 2, 5)
				sameCallerHello(t, c, w)
				if what := sameHear(t, c, w, msg(kind, number, n)); what != session.Nothing {
					t.Fatalf("Hear(%d, %d, %d): %d", kind, number, n, what)
				}
				sameAfterwards(t, c, w)
			}
		}
	}
}

// Numbers rise within a session, whatever is asked, and begin anew with each.
func TestP13_4NumbersBeginAnew(t *testing.T) {
	c, w := madeCaller(t, 1)
	for s := 1; s <= 20; s++ {
		sameCallerHello(t, c, w)
		sameHear(t, c, w, welcome(10*s))
		for n := 1; n <= s; n++ {
			request := []api.Msg{poll, beat, done}[n%3]
			sameCallerAsk(t, c, w, request)
			if m, is := sameDue(t, c, w); !is || m.Session != 10*s || m.Number != n || c.Waits() != n {
				t.Fatalf("%+v, %v", m, is)
			}
			if n < s {
				sameHear(t, c, w, msg(fitting[request.Kind][n%2], 10*s, n))
			} else {
				sameHear(t, c, w, msg(api.MsgStale, 10*s, n))
			}
		}
	}
}

// anyCall does one call to both; most messages are about right.
func anyCall(t *testing.T, c *session.Caller, w *callerWords, rnd *rand.Rand) {
	t.Helper()
	switch k := rnd.Intn(10); {
	case k < 1:
		sameCallerHello(t, c, w)
	case k < 3:
		sameCallerAsk(t, c, w, api.Msg{Kind: 1 + rnd.Intn(5), Badge: rnd.Intn(9)})
	case k < 5:
		sameTick(t, c, w)
	case k < 7:
		sameDue(t, c, w)
	default:
		m := msg(7+rnd.Intn(8), w.session(), w.waits())
		if rnd.Intn(4) == 0 {
			m.Number += rnd.Intn(3) - 1
		}
		if m.Kind == api.MsgWelcome || rnd.Intn(4) == 0 {
			m.Session = 1 + rnd.Intn(40)
		}
		sameHear(t, c, w, m)
	}
}

func TestP13_5Walks(t *testing.T) {
	for seed := range int64(300) {
		rnd := rand.New(rand.NewSource(seed))
		c, w := madeCaller(t, 1+rnd.Intn(16))
		for range 400 {
			anyCall(t, c, w, rnd)
		}
	}
}

// Clones at any place of a walk go their own ways; so do their clones.
func TestR7CallerClones(t *testing.T) {
	type both struct {
		c *session.Caller
		w *callerWords
	}
	for seed := range int64(60) {
		rnd := rand.New(rand.NewSource(seed))
		c, w := madeCaller(t, 1+rnd.Intn(4))
		all := []both{{c, w}}
		for range 300 {
			at := all[rnd.Intn(len(all))]
			if rnd.Intn(15) == 0 && len(all) < 12 {
				all = append(all, both{at.c.Clone(), at.w.clone()})
			}
			anyCall(t, at.c, at.w, rnd)
			for _, x := range all {
				sameCaller(t, x.c, x.w)
			}
		}
		for _, x := range all {
			sameAfterwards(t, x.c, x.w)
		}
	}
}

// Every call of a small world, at every state that it leads to; each is tried on a clone.
func TestP13_5EveryStateOfASmallWorld(t *testing.T) {
	type both struct {
		c *session.Caller
		w *callerWords
	}
	type key struct{ session, greatest, last, kind, timer int }
	keyOf := func(w *callerWords) key {
		k := key{session: w.session(), timer: w.timer()}
		if w.has {
			k.last = w.asked
		}
		for _, s := range w.welcomes {
			k.greatest = max(k.greatest, s)
		}
		for _, m := range w.way {
			k.kind = m.Kind
		}
		return k
	}
	for resend := 1; resend <= 3; resend++ {
		c, w := madeCaller(t, resend)
		seen := map[key]int{keyOf(w): 1}
		work := []both{{c, w}}
		for len(work) > 0 {
			at := work[0]
			work = work[1:]
			try := func(call func(c *session.Caller, w *callerWords)) {
				c, w := at.c.Clone(), at.w.clone()
				call(c, w)
				if k := keyOf(w); k.last <= 2 && seen[k] == 0 {
					seen[k] = 1
					work = append(work, both{c, w})
				}
			}
			try(func(c *session.Caller, w *callerWords) { sameTick(t, c, w) })
			try(func(c *session.Caller, w *callerWords) { sameDue(t, c, w) })
			try(func(c *session.Caller, w *callerWords) { sameCallerHello(t, c, w) })
			for kind := range 18 {
				try(func(c *session.Caller, w *callerWords) { sameCallerAsk(t, c, w, api.Msg{Kind: kind}) })
				for s := range 4 {
					for n := range 4 {
						try(func(c *session.Caller, w *callerWords) { sameHear(t, c, w, msg(kind, s, n)) })
					}
				}
			}
			sameCaller(t, at.c, at.w) // what was done to its clones is not seen here
		}
		// Without a session: four greatest ones; nothing, or a Hello at 0 to resend. In one of three: nothing behind 0 to 2 requests, or one of three kinds as the first or second one, at 0 to resend.
		if want := 4*(1+resend+1) + 3*(3+2*3*(resend+1)); len(seen) != want {
			t.Errorf("resend %d: %d states, not %d", resend, len(seen), want)
		}
	}
}
