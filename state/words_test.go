package state_test

import (
	"encoding/binary"
	"math/rand"
	"slices"
	"strconv"
	"strings"
	"testing"

	"gaffer/api"
	"gaffer/record"
	"gaffer/state"
)

const top = 1 << 40

// words tells a state by the view from which it goes on, and by all changes that it took since: rows, programs and logs are read off them.
type words struct {
	most  int
	base  api.View
	since []api.Change
}

func (w *words) clone() *words { return &words{w.most, copyView(w.base), copyChanges(w.since)} }

func copyView(v api.View) api.View {
	v.Jobs = slices.Clone(v.Jobs)
	for i := range v.Jobs {
		v.Jobs[i].Log = slices.Clone(v.Jobs[i].Log)
	}
	return v
}

func copyChanges(l []api.Change) []api.Change {
	l = slices.Clone(l)
	for i := range l {
		l[i].Texts = slices.Clone(l[i].Texts)
	}
	return l
}

// view goes over all changes anew: it leans on their having been taken.
func (w *words) view() api.View {
	v := copyView(w.base)
	for _, c := range w.since {
		switch at := under(v, c.Badge); c.Kind {
		case 1:
			v.Reserved = c.N
		case 2:
			v.Jobs = append(v.Jobs, api.Place{Row: api.Row{Job: len(v.Jobs) + 1, Status: 1}, Program: c.Program})
		case 3:
			p := &v.Jobs[c.Job-1]
			p.Row = api.Row{Job: c.Job, Status: 2, Attempts: p.Row.Attempts + 1, Badge: c.Badge, Holder: api.Addr{Node: c.Slot + 2, Life: c.Life}}
			p.Log = nil
		case 4:
			v.Jobs[at].Log = append(v.Jobs[at].Log, c.Texts...)
		case 5:
			r := &v.Jobs[at].Row
			*r = api.Row{Job: r.Job, Status: 1, Attempts: r.Attempts, Badge: r.Badge}
			if r.Attempts == w.most {
				r.Status = 4
			}
		case 6:
			r := &v.Jobs[at].Row
			*r = api.Row{Job: r.Job, Status: 3, Attempts: r.Attempts, Badge: r.Badge, Result: c.Result}
		}
	}
	return v
}

// under is the place of the job that is held under a badge, or -1.
func under(v api.View, badge int) int {
	return slices.IndexFunc(v.Jobs, func(p api.Place) bool { return p.Row.Status == 2 && p.Row.Badge == badge })
}

func (w *words) mayCome(c api.Change) bool {
	if record.Check(c) != api.OK {
		return false
	}
	v := w.view()
	at := under(v, c.Badge)
	switch c.Kind {
	case 1:
		return c.N > v.Reserved
	case 2:
		return len(v.Jobs) <= 7 && c.Job == len(v.Jobs)+1
	case 3:
		if c.Job > len(v.Jobs) || v.Jobs[c.Job-1].Row.Status != 1 || c.Badge > v.Reserved {
			return false
		}
		return !slices.ContainsFunc(v.Jobs, func(p api.Place) bool { return p.Row.Badge >= c.Badge })
	case 4:
		return at >= 0 && len(v.Jobs[at].Log)+len(c.Texts) <= 32
	}
	return at >= 0
}

func (w *words) apply(l []api.Change) (int, api.Errno) {
	n := len(w.since)
	for i, c := range l {
		if !w.mayCome(c) {
			w.since = w.since[:n]
			return i, 170
		}
		w.since = append(w.since, copyChanges([]api.Change{c})...)
	}
	return 0, 0
}

func (w *words) head() int {
	for _, p := range w.view().Jobs {
		if p.Row.Status == 1 {
			return p.Row.Job
		}
	}
	return 0
}

func (w *words) find(badge int) (api.Place, bool) {
	for _, p := range w.view().Jobs {
		if badge != 0 && p.Row.Badge == badge {
			return p, true
		}
	}
	return api.Place{}, false
}

// bytesOf is a view's bytes, laid by another library.
func bytesOf(v api.View) string {
	var b []byte
	number := func(l ...int) {
		for _, n := range l {
			b = binary.AppendUvarint(b, uint64(n))
		}
	}
	number(v.Reserved, len(v.Jobs))
	for _, p := range v.Jobs {
		r := p.Row
		number(r.Status, r.Attempts, r.Badge, r.Holder.Node, r.Holder.Life, r.Result.Code)
		b = binary.BigEndian.AppendUint64(b, r.Result.Bits)
		number(len(p.Program))
		b = append(b, p.Program...)
		number(len(p.Log))
		for _, s := range p.Log {
			number(len(s))
			b = append(b, s...)
		}
	}
	return string(b)
}

// wrongWith goes down the words of what may be: the first that a view does not keep, or nothing.
func wrongWith(most int, v api.View) string {
	if v.Reserved < 0 || v.Reserved > top {
		return "reserved"
	}
	if len(v.Jobs) > 8 {
		return "too many jobs"
	}
	for i, p := range v.Jobs {
		if why := wrongRow(most, i+1, p.Row); why != "" {
			return why
		}
		for _, other := range v.Jobs[:i] {
			if p.Row.Badge > 0 && other.Row.Badge == p.Row.Badge {
				return "two of one badge"
			}
		}
		switch {
		case p.Row.Badge > v.Reserved:
			return "a badge that is not reserved"
		case len(p.Program) == 0, len(p.Program) > 1024:
			return "program"
		case len(p.Log) > 32:
			return "a long log"
		case len(p.Log) > 0 && p.Row.Attempts == 0:
			return "a log of no attempt"
		case slices.ContainsFunc(p.Log, func(s string) bool { return len(s) > 32 }):
			return "a long text"
		}
	}
	return ""
}

// wrongRow: the words of chapter 11, of one row.
func wrongRow(most, job int, r api.Row) string {
	held, recorded := r.Status == 2, r.Status == 3
	goodHolder := r.Holder.Node >= 2 && r.Holder.Node <= 9 && r.Holder.Life >= 1 && r.Holder.Life <= top
	goodResult := r.Result.Code == 0 || r.Result.Code >= 1 && r.Result.Code <= 7 && r.Result.Bits == 0
	switch {
	case r.Job != job:
		return "not in order"
	case r.Attempts < 0, r.Attempts > most:
		return "attempts"
	case r.Badge < 0, r.Badge > top, (r.Badge == 0) != (r.Attempts == 0):
		return "badge"
	case held && !goodHolder, !held && r.Holder != api.Addr{}:
		return "holder"
	case recorded && !goodResult, !recorded && r.Result != api.Result{}:
		return "result"
	case r.Status < 1, r.Status > 4:
		return "status"
	case r.Status == 1 && r.Attempts == most:
		return "queued behind the last attempt"
	case (held || recorded) && r.Attempts == 0:
		return "held or recorded without an attempt"
	case r.Status == 4 && r.Attempts != most:
		return "lost too early"
	}
	return ""
}

// loose takes numbers in whatever form; what it can't read is -1, or noughts.
type loose struct{ rest []byte }

func (r *loose) next() int {
	n, used := binary.Uvarint(r.rest)
	if used <= 0 || n > 1<<62 {
		r.rest = nil
		return -1
	}
	r.rest = r.rest[used:]
	return int(n)
}

func (r *loose) take(many int) []byte {
	if many < 0 || many > len(r.rest) {
		r.rest = nil
		return make([]byte, 8)
	}
	l := r.rest[:many]
	r.rest = r.rest[many:]
	return l
}

// viewOf: P17.3's Load. It takes what it can read, and holds its bytes against those that were given.
func viewOf(most int, s string) (api.View, api.Errno) {
	if most < 1 || most > 8 {
		return api.View{}, 1
	}
	r := &loose{[]byte(s)}
	v := api.View{Reserved: r.next()}
	for i := range max(0, min(r.next(), 99)) {
		var p api.Place
		p.Row.Job, p.Row.Status, p.Row.Attempts, p.Row.Badge = i+1, r.next(), r.next(), r.next()
		p.Row.Holder.Node, p.Row.Holder.Life, p.Row.Result.Code = r.next(), r.next(), r.next()
		p.Row.Result.Bits = binary.BigEndian.Uint64(r.take(8))
		p.Program = string(r.take(r.next()))
		for range max(0, min(r.next(), 99)) {
			p.Log = append(p.Log, string(r.take(r.next())))
		}
		v.Jobs = append(v.Jobs, p)
	}
	if wrongWith(most, v) != "" || bytesOf(v) != s {
		return api.View{}, 171
	}
	return v, 0
}

func samePlace(a, b api.Place) bool {
	return a.Row == b.Row && a.Program == b.Program && slices.Equal(a.Log, b.Log)
}

func sameView(a, b api.View) bool {
	return a.Reserved == b.Reserved && slices.EqualFunc(a.Jobs, b.Jobs, samePlace)
}

// both is a state and its telling.
type both struct {
	t *testing.T
	s *state.State
	w *words
}

func made(t *testing.T, most int) both {
	t.Helper()
	s, e := state.New(most)
	if s == nil || e != api.OK {
		t.Fatalf("New(%d): %v, %v", most, s, e)
	}
	b := both{t, s, &words{most: most}}
	b.same()
	return b
}

// loads holds Load against the words; whether it took the bytes.
func loads(t *testing.T, most int, s string) (both, bool) {
	t.Helper()
	v, e := viewOf(most, s)
	x, f := state.Load(most, s)
	if f != e || (x != nil) != (e == api.OK) {
		t.Fatalf("Load(%d, %x): %v, %v, not %v", most, s, x, f, e)
	}
	if e != api.OK {
		return both{}, false
	}
	b := both{t, x, &words{most: most, base: v}}
	b.same()
	return b, true
}

// standing is a state that shows that view, which may be.
func standing(t *testing.T, most int, v api.View) both {
	t.Helper()
	if why := wrongWith(most, v); why != "" {
		t.Fatalf("%+v: %s", v, why)
	}
	b, ok := loads(t, most, bytesOf(v))
	if !ok {
		t.Fatalf("%+v is not taken", v)
	}
	return b
}

func (b both) clone() both { return both{b.t, b.s.Clone(), b.w.clone()} }

// same asks both all that changes nothing.
func (b both) same() {
	b.t.Helper()
	want := b.w.view()
	if got := b.s.View(); !sameView(got, want) {
		b.t.Fatalf("View: %+v, not %+v", got, want)
	}
	if got := b.s.Bytes(); got != bytesOf(want) {
		b.t.Fatalf("%+v: Bytes: %x, not %x", want, got, bytesOf(want))
	}
	if got := b.s.Reserved(); got != want.Reserved {
		b.t.Fatalf("%+v: Reserved: %d", want, got)
	}
	if got := b.s.Head(); got != b.w.head() {
		b.t.Fatalf("%+v: Head: %d, not %d", want, got, b.w.head())
	}
	badges := []int{-1, 0, 1, want.Reserved, top}
	for _, p := range want.Jobs {
		badges = append(badges, p.Row.Badge-1, p.Row.Badge, p.Row.Badge+1)
	}
	for _, n := range badges {
		b.sameFind(n)
	}
}

func (b both) sameFind(badge int) {
	b.t.Helper()
	got, ok := b.s.Find(badge)
	if want, is := b.w.find(badge); ok != is || !samePlace(got, want) {
		b.t.Fatalf("%+v: Find(%d): %+v, %v, not %+v, %v", b.w.view(), badge, got, ok, want, is)
	}
}

func (b both) apply(l ...api.Change) (int, api.Errno) {
	b.t.Helper()
	ahead := b.w.view()
	at, e := b.s.Apply(l)
	if i, f := b.w.apply(l); at != i || e != f {
		b.t.Fatalf("%+v: Apply(%+v): %d, %v, not %d, %v", ahead, l, at, e, i, f)
	}
	return at, e
}

// takes and refuses hold the answer against what it should be, and all that is to be seen behind it.
func (b both) takes(l ...api.Change) {
	b.t.Helper()
	if at, e := b.apply(l...); at != 0 || e != api.OK {
		b.t.Fatalf("%+v: Apply(%+v): %d, %v", b.w.view(), l, at, e)
	}
	b.same()
}

func (b both) refuses(place int, l ...api.Change) {
	b.t.Helper()
	if at, e := b.apply(l...); at != place || e != api.ErrStateChange {
		b.t.Fatalf("%+v: Apply(%+v): %d, %v, not at %d", b.w.view(), l, at, e, place)
	}
	b.same()
}

// tries asks a clone: whether it takes them.
func (b both) tries(l ...api.Change) bool {
	b.t.Helper()
	c := b.clone()
	_, e := c.apply(l...)
	c.same()
	return e == api.OK
}

// The changes.

func reserve(n int) api.Change { return api.Change{Kind: api.ChReserve, N: n} }

func submit(job int) api.Change {
	return api.Change{Kind: api.ChSubmit, Job: job, Program: "p" + strconv.Itoa(job)}
}

func grant(job, badge int) api.Change {
	return api.Change{Kind: api.ChGrant, Job: job, Badge: badge, Slot: badge & 7, Life: 1 + badge&3}
}

func lengthen(badge int, l ...string) api.Change {
	return api.Change{Kind: api.ChLog, Badge: badge, Texts: l}
}

func expire(badge int) api.Change { return api.Change{Kind: api.ChExpire, Badge: badge} }

func settle(badge int, x api.Result) api.Change {
	return api.Change{Kind: api.ChSettle, Badge: badge, Result: x}
}

// long is a text of so many bytes.
func long(n int) string { return strings.Repeat("z", n) }

// of is so many texts, each another one.
func of(n int) []string {
	var l []string
	for i := range n {
		l = append(l, "text "+strconv.Itoa(i))
	}
	return l
}

// full is a state of eight jobs: 1, 2 and 8 Queued (8 behind an attempt), 3 and 4 Recorded, 5 Lost, 6 and 7 Held under 5 and 6. Its most is 2; of 20 badges 1 to 7 were granted.
func full(t *testing.T) both {
	t.Helper()
	b := made(t, 2)
	b.takes(reserve(20))
	for job := 1; job <= 8; job++ {
		b.takes(submit(job))
	}
	b.takes(grant(3, 1), lengthen(1, "3", "a"), settle(1, api.Result{Bits: 5}))
	b.takes(grant(4, 2), settle(2, api.Result{Code: 7}))
	b.takes(grant(5, 3), expire(3), grant(5, 4), lengthen(4, "5"), expire(4))
	b.takes(grant(6, 5), lengthen(5, "6", "6", ""))
	b.takes(grant(7, 6))
	b.takes(grant(8, 7), lengthen(7, "8"), expire(7))
	return b
}

// anyView may be, under that most.
func anyView(rnd *rand.Rand, most int) api.View {
	v := api.View{Reserved: 30}
	badges := rnd.Perm(30)
	for job := 1; job <= rnd.Intn(9); job++ {
		r := api.Row{Job: job, Status: 1 + rnd.Intn(4), Attempts: 1 + rnd.Intn(most), Badge: badges[job] + 1}
		switch r.Status {
		case 1:
			r.Attempts = rnd.Intn(most)
		case 2:
			r.Holder = api.Addr{Node: 2 + rnd.Intn(8), Life: 1 + rnd.Intn(300)}
		case 3:
			r.Result = []api.Result{{Bits: rnd.Uint64()}, {Code: 1 + rnd.Intn(7)}, {}}[rnd.Intn(3)]
		case 4:
			r.Attempts = most
		}
		p := api.Place{Row: r, Program: long(1 + rnd.Intn(40))}
		if r.Attempts == 0 {
			p.Row.Badge = 0
		} else {
			p.Log = of(rnd.Intn(33))
		}
		v.Jobs = append(v.Jobs, p)
	}
	return v
}

// anyChange mostly may come.
func anyChange(rnd *rand.Rand, w *words) api.Change {
	v := w.view()
	greatest, held := 0, []int{0}
	for _, p := range v.Jobs {
		greatest = max(greatest, p.Row.Badge)
		if p.Row.Status == 2 {
			held = append(held, p.Row.Badge, p.Row.Badge, p.Row.Badge)
		}
	}
	badge := held[rnd.Intn(len(held))]
	switch rnd.Intn(12) {
	case 0:
		return reserve(v.Reserved + rnd.Intn(5))
	case 1, 2:
		return submit(len(v.Jobs) + 1 - rnd.Intn(8)/7)
	case 3, 4, 5:
		c := grant(w.head(), greatest+1+rnd.Intn(2))
		if rnd.Intn(6) == 0 {
			c.Job, c.Badge = rnd.Intn(9), rnd.Intn(greatest+2)
		}
		return c
	case 6, 7, 8:
		return lengthen(badge, of(rnd.Intn(9))...)
	case 9, 10:
		return expire(badge)
	}
	return settle(badge, []api.Result{{}, {Bits: 9}, {Code: 3}, {Code: 3, Bits: 1}, {Code: 8}}[rnd.Intn(5)])
}
