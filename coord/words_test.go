package coord_test

import (
	"encoding/binary"
	"slices"

	"gaffer/api"
	"gaffer/disk"
	"gaffer/prog"
	"gaffer/wal"
	"gaffer/wire"
)

// The chapter's words, told a second time: by the view from which a coordinator goes on and all changes that it made since, read anew at each question; by ticks that are counted up; by bytes that another library lays; and by a disk of its own, on which wal's calls write what the words say.

const top = 1 << 40

// words tells a coordinator since it started.
type words struct {
	c     api.Config
	d     *disk.Disk
	log   *wal.Wal
	base  api.View
	since []api.Change
	told  int                    // so many of these were told
	last  int                    // the badge that was drawn last
	now   int                    // ticks
	heard map[int]int            // of a badge: the tick at which it had all its ticks last
	desks map[int]api.Desk       // of a slot
	early map[int]map[int]string // of a badge: texts by their numbers, told or not
	cut   []api.Change           // the changes that were not made, since the power went
	dead  bool
}

// begins is one with a log, from a view on.
func begins(c api.Config, d *disk.Disk, log *wal.Wal, v api.View) *words {
	w := &words{c: c, d: d, log: log, base: copyView(v), last: v.Reserved, heard: map[int]int{}, desks: map[int]api.Desk{}, early: map[int]map[int]string{}}
	for _, p := range v.Jobs {
		if p.Row.Status == 2 {
			w.heard[p.Row.Badge], w.early[p.Row.Badge] = 0, map[int]string{}
		}
	}
	return w
}

// formats: New's, on a disk of noughts.
func formats(c api.Config, d *disk.Disk) (*words, api.Errno) {
	if e := wal.Format(d); e != 0 {
		return nil, e
	}
	log, _, _, e := wal.Open(d)
	return begins(c, d, log, api.View{}), e
}

// opens: Open's, behind this one, with what stands on its disk: the power may have gone with the last change whole, or not.
func (w *words) opens(c api.Config) (*words, api.Errno) {
	log, _, records, e := wal.Open(w.d)
	if e != 0 {
		return nil, e
	}
	if w.cut != nil && len(records) == w.log.Records()+1 {
		w.since = append(w.since, w.cut...)
	}
	w.cut = nil
	o := begins(c, w.d, log, w.view())
	if len(records) > 0 && log.Snapshot(stateBytes(o.base)) != 0 {
		w.log, w.dead = log, true // what it tells is as it was
		return nil, 2
	}
	return o, 0
}

func copyView(v api.View) api.View {
	v.Jobs = slices.Clone(v.Jobs)
	for i := range v.Jobs {
		v.Jobs[i].Log = slices.Clone(v.Jobs[i].Log)
	}
	return v
}

func copyChanges(l []api.Change) []api.Change {
	l = slices.Clone(l)
	for i := range l {
		l[i].Texts = slices.Clone(l[i].Texts)
	}
	return l
}

// behind is a view with these changes, which may come.
func behind(most int, v api.View, l []api.Change) api.View {
	v = copyView(v)
	for _, c := range l {
		at := slices.IndexFunc(v.Jobs, func(p api.Place) bool { return p.Row.Status == 2 && p.Row.Badge == c.Badge })
		switch c.Kind {
		case 1:
			v.Reserved = c.N
		case 2:
			v.Jobs = append(v.Jobs, api.Place{Row: api.Row{Job: len(v.Jobs) + 1, Status: 1}, Program: c.Program})
		case 3:
			p := &v.Jobs[c.Job-1]
			p.Row = api.Row{Job: c.Job, Status: 2, Attempts: p.Row.Attempts + 1, Badge: c.Badge, Holder: api.Addr{Node: c.Slot + 2, Life: c.Life}}
			p.Log = nil
		case 4:
			v.Jobs[at].Log = append(v.Jobs[at].Log, c.Texts...)
		case 5:
			r := &v.Jobs[at].Row
			*r = api.Row{Job: r.Job, Status: 1, Attempts: r.Attempts, Badge: r.Badge}
			if r.Attempts == most {
				r.Status = 4
			}
		case 6:
			r := &v.Jobs[at].Row
			*r = api.Row{Job: r.Job, Status: 3, Attempts: r.Attempts, Badge: r.Badge, Result: c.Result}
		}
	}
	return v
}

func (w *words) view() api.View { return behind(w.c.Attempts, w.base, w.since) }

// bytes

func nums(l ...int) string {
	var b []byte
	for _, n := range l {
		b = binary.AppendUvarint(b, uint64(n))
	}
	return string(b)
}

func text(s string) string { return nums(len(s)) + s }

func texts(l []string) string {
	b := nums(len(l))
	for _, s := range l {
		b += text(s)
	}
	return b
}

func bits(n uint64) string { return string(binary.BigEndian.AppendUint64(nil, n)) }

func stateBytes(v api.View) string {
	b := nums(v.Reserved, len(v.Jobs))
	for _, p := range v.Jobs {
		r := p.Row
		b += nums(r.Status, r.Attempts, r.Badge, r.Holder.Node, r.Holder.Life, r.Result.Code) + bits(r.Result.Bits) + text(p.Program) + texts(p.Log)
	}
	return b
}

func recordBytes(l []api.Change) string {
	b := nums(len(l))
	for _, c := range l {
		b += nums(c.Kind)
		switch c.Kind {
		case 1:
			b += nums(c.N)
		case 2:
			b += nums(c.Job) + text(c.Program)
		case 3:
			b += nums(c.Job, c.Badge, c.Slot, c.Life)
		case 4:
			b += nums(c.Badge) + texts(c.Texts)
		case 5:
			b += nums(c.Badge)
		case 6:
			b += nums(c.Badge, c.Result.Code) + bits(c.Result.Bits)
		}
	}
	return b
}

// calls

// alive: of calls that are answered ErrDead, all of them from then on.
func (w *words) alive() bool {
	w.dead = w.dead || w.d.Dead()
	return !w.dead
}

// makes changes; false, if the power goes.
func (w *words) makes(l ...api.Change) bool {
	if len(l) == 0 {
		return true
	}
	r := recordBytes(l)
	if w.log.Records() >= w.c.Every || w.log.Room() < len(r) {
		if w.log.Snapshot(stateBytes(w.view())) != 0 {
			w.dead = true
			return false
		}
	}
	if w.log.Append(r) != 0 {
		w.dead, w.cut = true, l
		return false
	}
	w.since = append(w.since, l...)
	return true
}

// draws a badge, with what is to be reserved; 0: none is left.
func (w *words) draws() (int, []api.Change) {
	if w.last == top {
		return 0, nil
	}
	w.last++
	if have := w.view().Reserved; w.last > have {
		return w.last, []api.Change{{Kind: 1, N: min(have+w.c.Block, top)}}
	}
	return w.last, nil
}

func (w *words) submit(program string) (int, api.Errno) {
	if !w.alive() {
		return 0, 2
	}
	if _, e := prog.Unpack(program); e != 0 {
		return 0, 181
	}
	n := len(w.view().Jobs) + 1
	if n == 9 {
		return 0, 182
	}
	if !w.makes(api.Change{Kind: 2, Job: n, Program: program}) {
		return 0, 2
	}
	return n, 0
}

func (w *words) left(badge int) int { return w.c.Lease - (w.now - w.heard[badge]) }

func (w *words) leases() []api.Lease {
	var l []api.Lease
	for _, p := range w.view().Jobs {
		if r := p.Row; r.Status == 2 {
			l = append(l, api.Lease{Job: r.Job, Badge: r.Badge, Holder: r.Holder, Left: w.left(r.Badge)})
		}
	}
	slices.SortFunc(l, func(a, b api.Lease) int { return a.Badge - b.Badge })
	return l
}

func (w *words) tick() api.Errno {
	if !w.alive() {
		return 2
	}
	var out []api.Change
	for _, x := range w.leases() {
		if x.Left == 1 {
			out = append(out, api.Change{Kind: 5, Badge: x.Badge})
		}
	}
	if !w.makes(out...) {
		return 2
	}
	w.now++
	return 0
}

func (w *words) sessions() []api.Desk {
	var l []api.Desk
	for k := range 8 {
		if d, ok := w.desks[k]; ok {
			l = append(l, d)
		}
	}
	return l
}

// holds: the job that is held so; its Status is 0, if none is.
func (w *words) holds(from api.Addr, badge int) api.Place {
	for _, p := range w.view().Jobs {
		if p.Row.Status == 2 && p.Row.Badge == badge && p.Row.Holder == from {
			return p
		}
	}
	return api.Place{}
}

// hear is the bytes that are said, none if nothing is.
func (w *words) hear(from api.Addr, data string) (string, api.Errno) {
	if !w.alive() {
		return "", 2
	}
	m, e := wire.Decode(data)
	k := from.Node - 2
	if e != 0 || from.Node < 2 || from.Node > w.c.Runners+1 || from.Life < 1 || from.Life > top {
		return "", 0
	}
	said := ""
	switch m.Kind {
	case 1:
		said = w.hello(k, from.Life)
	case 2, 3, 4:
		said = w.request(k, from, m)
	case 5:
		said = w.chunk(from, m)
	}
	if w.dead {
		return "", 2
	}
	return said, 0
}

func (w *words) hello(k, life int) string {
	d := w.desks[k]
	if d.Life > life {
		return ""
	}
	if d.Life < life {
		n, l := w.draws()
		if n == 0 || !w.makes(l...) {
			return ""
		}
		d = api.Desk{Slot: k, Life: life, Session: n}
		w.desks[k] = d
	}
	return nums(7, d.Session)
}

func (w *words) request(k int, from api.Addr, m api.Msg) string {
	d, ok := w.desks[k]
	if !ok || d.Life != from.Life || d.Session != m.Session {
		return nums(8, m.Session, m.Number)
	}
	if m.Number == d.Last {
		return d.Reply
	}
	if m.Number != d.Last+1 {
		return ""
	}
	kind, more := w.acts(k, from, m)
	if w.dead {
		return ""
	}
	d.Last, d.Reply = m.Number, nums(kind, m.Session, m.Number)+more
	w.desks[k] = d
	return d.Reply
}

// acts: the kind of the reply, and its bytes behind Session and Number.
func (w *words) acts(k int, from api.Addr, m api.Msg) (int, string) {
	switch m.Kind {
	case 2:
		return w.poll(k, from.Life)
	case 3:
		if w.holds(from, m.Badge).Row.Status == 0 {
			return 12, ""
		}
		w.heard[m.Badge] = w.now
		return 11, ""
	}
	for _, p := range w.view().Jobs {
		if p.Row.Status == 3 && p.Row.Badge == m.Badge {
			return 13, ""
		}
	}
	if p := w.holds(from, m.Badge); p.Row.Status == 0 || len(p.Log) != m.Count {
		return 12, ""
	}
	w.makes(api.Change{Kind: 6, Badge: m.Badge, Result: m.Result})
	return 13, ""
}

func (w *words) poll(k, life int) (int, string) {
	for _, p := range w.view().Jobs {
		if p.Row.Status != 1 {
			continue
		}
		n, l := w.draws()
		if n == 0 {
			return 10, ""
		}
		if w.makes(append(l, api.Change{Kind: 3, Job: p.Row.Job, Badge: n, Slot: k, Life: life})...) {
			w.heard[n], w.early[n] = w.now, map[int]string{}
		}
		return 9, nums(p.Row.Job, n) + text(p.Program)
	}
	return 10, ""
}

func (w *words) chunk(from api.Addr, m api.Msg) string {
	p := w.holds(from, m.Badge)
	if p.Row.Status == 0 {
		return ""
	}
	n := len(p.Log)
	if _, there := w.early[m.Badge][m.Index]; !there && m.Index >= n && m.Index < min(32, n+w.c.Window) {
		w.early[m.Badge][m.Index] = m.Text
	}
	var row []string
	for {
		s, there := w.early[m.Badge][n+len(row)]
		if !there {
			break
		}
		row = append(row, s)
	}
	if len(row) > 0 {
		w.makes(api.Change{Kind: 4, Badge: m.Badge, Texts: row})
	}
	return nums(14, m.Badge, n+len(row))
}

func (w *words) tell() []api.Change {
	l := copyChanges(w.since[w.told:])
	w.told = len(w.since)
	return l
}

// clone is on another disk, which has the same.
func (w *words) clone(d *disk.Disk) *words {
	c := *w
	c.d, c.log = d, w.log.Clone(d)
	c.base, c.since, c.cut = copyView(w.base), copyChanges(w.since), copyChanges(w.cut)
	c.heard, c.desks, c.early = copyMap(w.heard), copyMap(w.desks), map[int]map[int]string{}
	for b, l := range w.early {
		c.early[b] = copyMap(l)
	}
	return &c
}

func copyMap[V any](m map[int]V) map[int]V {
	c := map[int]V{}
	for k, v := range m {
		c[k] = v
	}
	return c
}
