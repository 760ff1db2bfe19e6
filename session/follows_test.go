package session_test

import (
	"fmt"
	"maps"
	"math/rand"
	"slices"
	"testing"

	"gaffer/api"
	"gaffer/session"
)

// letter is something that was said: by a caller, or to it.
type letter struct {
	slot, life int
	m          api.Msg
}

// seat is a slot with its caller, and what is known of that: the session that it was welcomed to last, and the number and the id of its last request, which bears the id as its Badge.
type seat struct {
	life, welcome, number, id int
	fresh                     bool // the request was asked in calm
	c                         *session.Caller
}

// request is what the ledger knows one by.
type request struct{ session, number int }

// world is callers and a table with a net between; whoever has it chooses what arrives.
type world struct {
	t                *testing.T
	resend           int
	seats            []seat
	table            *session.Table
	opened           int // the greatest session that was ever used
	ids              int
	acted            map[request]int // by which id
	toTable, toSeats []letter
	answered         int
}

func newWorld(t *testing.T, slots, resend int) *world {
	w := &world{t: t, resend: resend, acted: map[request]int{}}
	w.seats = make([]seat, slots)
	for slot := range slots {
		w.restart(slot)
	}
	w.forget()
	return w
}

func (w *world) clone() *world {
	o := *w
	o.seats, o.acted, o.table = slices.Clone(w.seats), maps.Clone(w.acted), w.table.Clone()
	o.toTable, o.toSeats = slices.Clone(w.toTable), slices.Clone(w.toSeats)
	for i := range o.seats {
		o.seats[i].c = w.seats[i].c.Clone()
	}
	return &o
}

// forget: another table takes the table's place.
func (w *world) forget() { w.table, _ = madeTable(w.t, len(w.seats)) }

// restart: another caller, of the next life, takes the caller's place.
func (w *world) restart(slot int) {
	c, _ := madeCaller(w.t, w.resend)
	w.seats[slot] = seat{life: w.seats[slot].life + 1, c: c}
}

// wish has a caller ask for a session, or for something, if nothing is under way.
func (w *world) wish(slot int, calm bool) {
	w.t.Helper()
	s := &w.seats[slot]
	e := api.OK
	switch {
	case s.c.Busy():
	case s.c.Session() == 0:
		e = s.c.Hello()
	default:
		w.ids++
		s.id, s.fresh = w.ids, calm
		e = s.c.Ask(api.Msg{Kind: 2 + w.ids%3, Badge: w.ids})
		s.number++
	}
	if e != api.OK || s.c.Waits() != 0 && s.c.Waits() != s.number {
		w.t.Fatalf("%v: the number %d, not %d", e, s.c.Waits(), s.number)
	}
}

// say lays what is due into the net.
func (w *world) say(slot int) {
	s := w.seats[slot]
	if m, is := s.c.Due(); is {
		w.toTable = append(w.toTable, letter{slot, s.life, m})
	}
}

// atTable: a letter arrives there, and what is said to it is in the net then.
func (w *world) atTable(l letter) {
	w.t.Helper()
	reply := func(m api.Msg) { w.toSeats = append(w.toSeats, letter{l.slot, l.life, m}) }
	if l.m.Kind == api.MsgHello {
		what, s := w.table.Hello(l.slot, l.life)
		if what == session.Old {
			return
		}
		if what == session.Fresh {
			w.opened++
			s = w.opened
			if e := w.table.Open(l.slot, l.life, s); e != api.OK {
				w.t.Fatalf("Open: %v", e)
			}
		}
		reply(api.Msg{Kind: api.MsgWelcome, Session: s})
		return
	}
	switch what, text := w.table.Ask(l.slot, l.life, l.m.Session, l.m.Number); what {
	case session.Stale:
		reply(api.Msg{Kind: api.MsgStale, Session: l.m.Session, Number: l.m.Number})
	case session.Again:
		reply(fromText(w.t, text))
	case session.New:
		reply(w.act(l))
	}
}

// act: no request acts twice, and none ahead of those of smaller numbers.
func (w *world) act(l letter) api.Msg {
	w.t.Helper()
	r := request{l.m.Session, l.m.Number}
	if w.acted[r] != 0 {
		w.t.Fatalf("%+v acts twice", r)
	}
	if r.number > 1 && w.acted[request{r.session, r.number - 1}] == 0 {
		w.t.Fatalf("%+v acts ahead of the one in front of it", r)
	}
	w.acted[r] = l.m.Badge
	m := api.Msg{Kind: fitting[l.m.Kind][l.m.Badge%2], Session: r.session, Number: r.number, Badge: l.m.Badge}
	if e := w.table.Answer(l.slot, toText(m)); e != api.OK {
		w.t.Fatalf("Answer: %v", e)
	}
	return m
}

func toText(m api.Msg) string { return fmt.Sprint(m.Kind, m.Session, m.Number, m.Badge) }

func fromText(t *testing.T, text string) (m api.Msg) {
	t.Helper()
	if _, err := fmt.Sscan(text, &m.Kind, &m.Session, &m.Number, &m.Badge); err != nil {
		t.Fatalf("%q: %v", text, err)
	}
	return m
}

// atSeat: a letter arrives at a caller; true, if it answers a request that was asked in calm. What is under way to an earlier life reaches nobody.
func (w *world) atSeat(l letter) bool {
	w.t.Helper()
	s := &w.seats[l.slot]
	if l.life != s.life {
		return false
	}
	switch s.c.Hear(l.m) {
	case session.Welcomed:
		s.welcome, s.number = l.m.Session, 0
		return false
	case session.Nothing, session.Lapsed:
		return false
	}
	w.answered++
	if l.m.Badge != s.id || w.acted[request{l.m.Session, l.m.Number}] != s.id {
		w.t.Fatalf("%+v is taken as the answer to the request %d", l.m, s.id)
	}
	return s.fresh
}

// calm goes on till each caller has an answer to something that it asked for in calm, within as many rounds as P13.9 says. What was under way is lost, or it arrives in the first round.
func (w *world) calm(tickFirst, late bool) {
	w.t.Helper()
	if !late {
		w.toTable, w.toSeats = nil, nil
	}
	waiting := map[int]int{}
	for slot := range w.seats {
		waiting[slot] = 1
		w.seats[slot].fresh = false
	}
	for range 4*w.resend + 3 {
		for slot := range w.seats {
			w.round(slot, tickFirst)
		}
		for _, l := range w.toTable {
			w.atTable(l)
		}
		for _, l := range w.toSeats {
			if w.atSeat(l) {
				delete(waiting, l.slot)
			}
		}
		w.toTable, w.toSeats = nil, nil
		if len(waiting) == 0 {
			return
		}
	}
	w.t.Fatalf("resend %d: no answer within %d rounds", w.resend, 4*w.resend+3)
}

func (w *world) round(slot int, tickFirst bool) {
	if tickFirst {
		w.seats[slot].c.Tick()
	}
	w.wish(slot, true)
	w.say(slot)
	if !tickFirst {
		w.seats[slot].c.Tick()
	}
}

// everyCalm plays calm from here in each way, on clones.
func (w *world) everyCalm() {
	w.t.Helper()
	for _, tickFirst := range []bool{false, true} {
		for _, late := range []bool{false, true} {
			o := w.clone()
			for range 4 { // once it is calm, it stays so
				o.calm(tickFirst, late)
			}
		}
	}
}

// key tells two worlds of one caller apart. What was said stays in the net for good here, so that it may arrive at any time, any number of times, or never.
func (w *world) key() string {
	s := w.seats[0]
	return fmt.Sprint(s.c.Session(), s.c.Waits(), s.c.Busy(), s.c.Timer(), s.welcome, s.number, s.id, w.opened, w.ids, w.acted, w.table.Rows(), w.toTable, w.toSeats)
}

// settle puts what is in the net into one order, each letter once.
func (w *world) settle() {
	byText := func(a, b letter) int {
		x, y := fmt.Sprint(a), fmt.Sprint(b)
		switch {
		case x < y:
			return -1
		case x > y:
			return 1
		}
		return 0
	}
	slices.SortFunc(w.toTable, byText)
	slices.SortFunc(w.toSeats, byText)
	w.toTable, w.toSeats = slices.Compact(w.toTable), slices.Compact(w.toSeats)
}

// Whatever the net does, at every state of a small world: one caller, three sessions, two requests in each, a table that is forgotten at any time.
func TestP13_9EveryStateOfASmallWorld(t *testing.T) {
	first := newWorld(t, 1, 1)
	seen := map[string]int{first.key(): 1}
	work := []*world{first}
	answered := 0
	for len(work) > 0 {
		at := work[len(work)-1]
		work = work[:len(work)-1]
		answered = max(answered, at.answered)
		try := func(do func(w *world)) {
			w := at.clone()
			do(w)
			w.settle()
			if k := w.key(); w.opened <= 3 && w.seats[0].c.Waits() <= 2 && seen[k] == 0 {
				seen[k] = 1
				work = append(work, w)
			}
		}
		try(func(w *world) { w.forget() })
		try(func(w *world) { w.wish(0, false) })
		try(func(w *world) { w.seats[0].c.Tick(); w.say(0) })
		for i := range at.toTable {
			try(func(w *world) { w.atTable(w.toTable[i]) })
		}
		for i := range at.toSeats {
			try(func(w *world) { w.atSeat(w.toSeats[i]) })
		}
		at.everyCalm()
	}
	// A session ends with a request that is Stale: so one is answered in each of the first two, and two in the third.
	if len(seen) < 1000 || answered != 4 {
		t.Errorf("just %d states, and %d requests answered", len(seen), answered)
	}
}

// anyThing happens.
func (w *world) anyThing(rnd *rand.Rand, harm int) {
	w.t.Helper()
	slot := rnd.Intn(len(w.seats))
	switch k := rnd.Intn(100); {
	case k < harm:
		w.forget()
	case k < 2*harm:
		w.restart(slot)
	case k < 40:
		w.seats[slot].c.Tick()
		w.wish(slot, false)
		w.say(slot)
	case k < 70 && len(w.toTable) > 0:
		w.atTable(pick(&w.toTable, rnd))
	case len(w.toSeats) > 0:
		w.atSeat(pick(&w.toSeats, rnd))
	}
}

// pick is any letter; it may be doubled, and others be lost.
func pick(l *[]letter, rnd *rand.Rand) letter {
	i := rnd.Intn(len(*l))
	x := (*l)[i]
	if rnd.Intn(3) > 0 {
		*l = slices.Delete(*l, i, i+1)
	}
	if len(*l) > 12 || rnd.Intn(12) == 0 && len(*l) > 0 {
		i = rnd.Intn(len(*l))
		*l = slices.Delete(*l, i, i+1)
	}
	return x
}

// Long walks of up to three callers, also such as are restarted; calm may come at any time.
func TestP13_9Walks(t *testing.T) {
	for resend := 1; resend <= 16; resend++ {
		answered := 0
		for seed := range int64(40) {
			rnd := rand.New(rand.NewSource(seed))
			w := newWorld(t, 1+rnd.Intn(3), resend)
			for step := range 400 {
				w.anyThing(rnd, int(seed)%3)
				if step%20 == 0 {
					w.everyCalm()
				}
			}
			answered += w.answered
		}
		if answered < 300 {
			t.Errorf("resend %d: just %d requests answered", resend, answered)
		}
	}
}
