package session_test

import (
	"slices"
	"testing"

	"gaffer/api"
	"gaffer/session"
)

const top = 1 << 40

// The kinds that fit a request's, by their numbers.
var fitting = map[int][]int{2: {9, 10}, 3: {11, 12}, 4: {12, 13}}

// callerWords tells a caller by a clock and by what it was welcomed to: nothing is counted down, and no session is kept twice.
type callerWords struct {
	resend, now int
	welcomes    []int // the sessions that it ever had, one behind the other
	has         bool  // the last of them is there still
	skipped     int   // numbers that no test has asked for
	asked       int   // requests in the last session
	way         []api.Msg
	due         int // the moment from which on it is to be said
}

func (w *callerWords) session() int {
	if !w.has {
		return 0
	}
	return w.welcomes[len(w.welcomes)-1]
}

func (w *callerWords) timer() int {
	if w.due > w.now {
		return w.due - w.now
	}
	return 0
}

func (w *callerWords) waits() int {
	for _, m := range w.way {
		if m.Kind != 1 {
			return w.skipped + w.asked
		}
	}
	return 0
}

func (w *callerWords) hello() api.Errno {
	if len(w.way) == 1 {
		return 131
	}
	w.has, w.way, w.due = false, []api.Msg{{Kind: 1}}, w.now
	return 0
}

func (w *callerWords) ask(m api.Msg) api.Errno {
	if fitting[m.Kind] == nil {
		return 1
	}
	if len(w.way) == 1 {
		return 131
	}
	if !w.has || w.skipped+w.asked == top {
		return 132
	}
	w.asked++
	m.Session, m.Number = w.session(), w.skipped+w.asked
	w.way, w.due = []api.Msg{m}, w.now
	return 0
}

func (w *callerWords) say() (api.Msg, bool) {
	if len(w.way) == 0 || w.due > w.now {
		return api.Msg{}, false
	}
	w.due = w.now + w.resend
	return w.way[0], true
}

func (w *callerWords) hear(m api.Msg) int {
	what := 0
	for _, x := range w.way {
		mine := m.Session == x.Session && m.Number == x.Number
		switch {
		case x.Kind == 1 && m.Kind == 7 && m.Session > slices.Max(append([]int{0}, w.welcomes...)):
			what = 1
			w.welcomes, w.has = append(slices.Clone(w.welcomes), m.Session), true
			w.skipped, w.asked = 0, 0
		case x.Kind != 1 && m.Kind == 8 && mine:
			what = 2
			w.has = false
		case x.Kind != 1 && slices.Contains(fitting[x.Kind], m.Kind) && mine:
			what = 3
		}
	}
	if what != 0 {
		w.way, w.due = nil, w.now
	}
	return what
}

func (w *callerWords) clone() *callerWords {
	c := *w
	c.welcomes, c.way = slices.Clone(w.welcomes), slices.Clone(w.way)
	return &c
}

// visit is what a table has of a slot: all replies of its session.
type visit struct {
	life, session int
	skipped       int // numbers that no test has asked for
	replies       []string
}

func (v visit) last() int { return v.skipped + len(v.replies) }

// tableWords tells a table by a map: a slot that is not in it has nothing.
type tableWords struct {
	slots  int
	visits map[int]visit
}

func (w *tableWords) slot(slot int) bool {
	return slices.Contains([]int{0, 1, 2, 3, 4, 5, 6, 7}[:w.slots], slot)
}

func (w *tableWords) hello(slot, life int) (int, int) {
	if !w.slot(slot) || life <= 0 || life >= top+1 {
		return 0, 0
	}
	v, ok := w.visits[slot]
	switch {
	case ok && v.life > life:
		return 0, 0
	case ok && v.life == life:
		return 1, v.session
	}
	return 2, 0
}

func (w *tableWords) open(slot, life, number int) api.Errno {
	if !w.slot(slot) {
		return 130
	}
	if v, ok := w.visits[slot]; ok && v.life > life || life <= 0 || life >= top+1 || number <= 0 || number >= top+1 {
		return 132
	}
	w.visits[slot] = visit{life: life, session: number}
	return 0
}

func (w *tableWords) ask(slot, life, number, n int) (int, string) {
	v, ok := w.visits[slot]
	if !ok || v.life != life || v.session != number {
		return 1, ""
	}
	switch n - v.last() {
	case 1:
		return 3, ""
	case 0:
		if len(v.replies) > 0 {
			return 2, v.replies[len(v.replies)-1]
		}
	}
	return 0, ""
}

func (w *tableWords) answer(slot int, reply string) api.Errno {
	if !w.slot(slot) {
		return 130
	}
	v, ok := w.visits[slot]
	if !ok || v.last() == top {
		return 132
	}
	v.replies = append(slices.Clone(v.replies), reply)
	w.visits[slot] = v
	return 0
}

func (w *tableWords) rows() []api.Desk {
	var l []api.Desk
	for slot := range 8 {
		v, ok := w.visits[slot]
		if !ok {
			continue
		}
		d := api.Desk{Slot: slot, Life: v.life, Session: v.session, Last: v.last()}
		if len(v.replies) > 0 {
			d.Reply = v.replies[len(v.replies)-1]
		}
		l = append(l, d)
	}
	return l
}

func (w *tableWords) clone() *tableWords {
	c := &tableWords{slots: w.slots, visits: map[int]visit{}}
	for slot, v := range w.visits {
		v.replies = slices.Clone(v.replies)
		c.visits[slot] = v
	}
	return c
}

func madeCaller(t *testing.T, resend int) (*session.Caller, *callerWords) {
	t.Helper()
	c, e := session.NewCaller(resend)
	if e != api.OK || c == nil {
		t.Fatalf("NewCaller(%d): %v, %v", resend, c, e)
	}
	return c, &callerWords{resend: resend}
}

func madeTable(t *testing.T, slots int) (*session.Table, *tableWords) {
	t.Helper()
	x, e := session.NewTable(slots)
	if e != api.OK || x == nil {
		t.Fatalf("NewTable(%d): %v, %v", slots, x, e)
	}
	return x, &tableWords{slots: slots, visits: map[int]visit{}}
}

// sameCaller asks both everything that changes nothing.
func sameCaller(t *testing.T, c *session.Caller, w *callerWords) {
	t.Helper()
	type looks struct {
		session, waits int
		busy           bool
		timer          int
	}
	got := looks{c.Session(), c.Waits(), c.Busy(), c.Timer()}
	if want := (looks{w.session(), w.waits(), len(w.way) == 1, w.timer()}); got != want {
		t.Fatalf("%+v: %+v, not %+v", *w, got, want)
	}
}

// The calls that change a caller, done to both, held against each other.

func sameCallerHello(t *testing.T, c *session.Caller, w *callerWords) api.Errno {
	t.Helper()
	ahead := *w.clone()
	e := c.Hello()
	if want := w.hello(); e != want {
		t.Fatalf("%+v: Hello: %v, not %v", ahead, e, want)
	}
	sameCaller(t, c, w)
	return e
}

func sameCallerAsk(t *testing.T, c *session.Caller, w *callerWords, m api.Msg) api.Errno {
	t.Helper()
	ahead := *w.clone()
	e := c.Ask(m)
	if want := w.ask(m); e != want {
		t.Fatalf("%+v: Ask(%+v): %v, not %v", ahead, m, e, want)
	}
	sameCaller(t, c, w)
	return e
}

func sameTick(t *testing.T, c *session.Caller, w *callerWords) {
	t.Helper()
	c.Tick()
	w.now++
	sameCaller(t, c, w)
}

func sameDue(t *testing.T, c *session.Caller, w *callerWords) (api.Msg, bool) {
	t.Helper()
	ahead := *w.clone()
	m, is := c.Due()
	if want, wis := w.say(); m != want || is != wis {
		t.Fatalf("%+v: Due: %+v, %v, not %+v, %v", ahead, m, is, want, wis)
	}
	sameCaller(t, c, w)
	return m, is
}

func sameHear(t *testing.T, c *session.Caller, w *callerWords, m api.Msg) int {
	t.Helper()
	ahead := *w.clone()
	what := c.Hear(m)
	if want := w.hear(m); what != want {
		t.Fatalf("%+v: Hear(%+v): %v, not %v", ahead, m, what, want)
	}
	sameCaller(t, c, w)
	return what
}

// The calls to a table.

func sameRows(t *testing.T, x *session.Table, w *tableWords) {
	t.Helper()
	if got, want := x.Rows(), w.rows(); !slices.Equal(got, want) {
		t.Fatalf("Rows: %+v, not %+v", got, want)
	}
}

func sameTableHello(t *testing.T, x *session.Table, w *tableWords, slot, life int) (int, int) {
	t.Helper()
	what, s := x.Hello(slot, life)
	if want, ws := w.hello(slot, life); what != want || s != ws {
		t.Fatalf("%+v: Hello(%d, %d): %v, %v, not %v, %v", w.rows(), slot, life, what, s, want, ws)
	}
	return what, s
}

func sameTableAsk(t *testing.T, x *session.Table, w *tableWords, slot, life, number, n int) (int, string) {
	t.Helper()
	what, reply := x.Ask(slot, life, number, n)
	if want, wr := w.ask(slot, life, number, n); what != want || reply != wr {
		t.Fatalf("%+v: Ask(%d, %d, %d, %d): %v, %q, not %v, %q", w.rows(), slot, life, number, n, what, reply, want, wr)
	}
	return what, reply
}

func sameOpen(t *testing.T, x *session.Table, w *tableWords, slot, life, number int) api.Errno {
	t.Helper()
	ahead := w.rows()
	e := x.Open(slot, life, number)
	if want := w.open(slot, life, number); e != want {
		t.Fatalf("%+v: Open(%d, %d, %d): %v, not %v", ahead, slot, life, number, e, want)
	}
	sameRows(t, x, w)
	return e
}

func sameAnswer(t *testing.T, x *session.Table, w *tableWords, slot int, reply string) api.Errno {
	t.Helper()
	ahead := w.rows()
	e := x.Answer(slot, reply)
	if want := w.answer(slot, reply); e != want {
		t.Fatalf("%+v: Answer(%d, %q): %v, not %v", ahead, slot, reply, e, want)
	}
	sameRows(t, x, w)
	return e
}

// sameTable asks both everything that changes nothing, at and about what is there.
func sameTable(t *testing.T, x *session.Table, w *tableWords) {
	t.Helper()
	sameRows(t, x, w)
	for slot := -1; slot <= 8; slot++ {
		v := w.visits[slot]
		for _, life := range []int{-1, 0, 1, v.life - 1, v.life, v.life + 1, top, top + 1} {
			sameTableHello(t, x, w, slot, life)
			for _, number := range []int{-1, 0, 1, v.session - 1, v.session, v.session + 1} {
				for _, n := range []int{-1, 0, 1, v.last() - 1, v.last(), v.last() + 1, v.last() + 2} {
					sameTableAsk(t, x, w, slot, life, number, n)
				}
			}
		}
	}
	sameRows(t, x, w)
}
