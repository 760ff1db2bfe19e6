package cluster_test

import (
	"slices"
	"strings"

	"gaffer/api"
	"gaffer/coord"
	"gaffer/disk"
	"gaffer/prog"
	"gaffer/runner"
	"gaffer/sink"
	"gaffer/wire"
)

// The chapter's words, told a second time: whether a step is refused is asked ahead of doing anything of it; what the coordinator and the sink did is read off what they show ahead of and behind each call; the bag is a list of its own.

// words tells a fleet.
type words struct {
	c       api.Config
	d       *disk.Disk
	coord   *coord.Coord // nil: it is down
	sink    *sink.Sink
	runners map[int]*runner.Runner // by their nodes; none: it is down
	lives   map[int]int
	way     []api.Datagram
	sent    int
	out     []api.Event // of the step that is being done
}

func begins(c api.Config) *words {
	w := &words{c: c, sink: sink.New(), runners: map[int]*runner.Runner{}, lives: map[int]int{}}
	w.d, _ = disk.Load(slices.Repeat([]string{strings.Repeat("\x00", 128)}, 2+2*c.Half))
	w.coord, _ = coord.New(c, w.d)
	for n := 2; n < 2+c.Runners; n++ {
		w.runners[n], _ = runner.New(c, n-2, 1)
		w.lives[n] = 1
	}
	return w
}

func (w *words) there(n int) bool { return n >= 0 && n < 2+w.c.Runners }

func (w *words) up(n int) bool {
	switch n {
	case 0:
		return w.coord != nil
	case 1:
		return true
	}
	return w.runners[n] != nil
}

func (w *words) addr(n int) api.Addr { return api.Addr{Node: n, Life: w.lives[n]} }

func (w *words) step(s api.Step) []api.Event {
	w.out = nil
	if e := w.refusal(s); e != 0 {
		return []api.Event{{Kind: 1, Code: e}}
	}
	w.does(s)
	return w.out
}

func (w *words) refusal(s api.Step) api.Errno {
	first := func(l ...api.Errno) api.Errno {
		for _, e := range l {
			if e != 0 {
				return e
			}
		}
		return 0
	}
	when := func(is bool, e api.Errno) api.Errno {
		if is {
			return e
		}
		return 0
	}
	noPlace := when(s.K < 0 || s.K >= len(w.way), 30)
	noCut := when(s.K < 0 || s.X < 0 || s.X > 128, 1)
	switch s.Kind {
	case 1:
		_, bad := prog.Unpack(s.Text)
		return first(when(w.coord == nil, 203), when(bad != 0, 181), when(w.coord != nil && len(w.jobs()) == 8, 182))
	case 2, 3:
		return first(when(!w.there(s.A), 202), when(!w.up(s.A), 203))
	case 4, 5, 6:
		return noPlace
	case 7:
		_, bad := wire.Decode(s.Text)
		return first(when(!w.there(s.A), 202), when(bad == 0, 205))
	case 8:
		return first(when(!w.there(s.A) || s.A == 1, 202), when(!w.up(s.A), 203))
	case 9:
		return first(when(!w.there(s.A) || s.A == 1, 202), when(w.up(s.A), 204), when(s.A == 0, noCut))
	case 10:
		return first(when(w.d.Dead(), 2), noCut)
	case 11:
		return 0
	case 12:
		return when(s.K < 1 || s.K > 256, 1)
	}
	return 201
}

// does a step that is not refused.
func (w *words) does(s api.Step) {
	switch s.Kind {
	case 1:
		w.coordDoes(func() []api.Datagram { w.coord.Submit(s.Text); return nil })
	case 2:
		w.tick(s.A)
	case 3:
		w.stepOf(s.A)
	case 4:
		w.arrives(w.take(s.K))
	case 5:
		w.take(s.K)
	case 6:
		w.send(w.way[s.K])
	case 8:
		w.goesDown(s.A)
	case 9:
		w.start(s)
	case 10:
		w.d.Arm(s.K, s.X)
	case 11:
		w.round()
	case 12:
		for range s.K {
			w.round()
		}
	}
}

func (w *words) tells(e api.Event) { w.out = append(w.out, e) }

func (w *words) send(l ...api.Datagram) {
	for _, d := range l {
		w.sent++
		d.Num = w.sent
		w.way = append(w.way, d)
	}
}

func (w *words) take(place int) api.Datagram {
	d := w.way[place]
	w.way = append(slices.Clone(w.way[:place]), w.way[place+1:]...)
	return d
}

func (w *words) goesDown(n int) {
	w.tells(api.Event{Kind: 3, Who: w.addr(n)})
	if n == 0 {
		w.coord = nil
	} else {
		delete(w.runners, n)
	}
}

func (w *words) start(s api.Step) {
	if s.A > 0 {
		w.lives[s.A]++
		w.runners[s.A], _ = runner.New(w.c, s.A-2, w.lives[s.A])
		w.tells(api.Event{Kind: 4, Who: w.addr(s.A)})
		return
	}
	w.d.Revive()
	w.d.Arm(s.K, s.X)
	c, e := coord.Open(w.c, w.d)
	if e != 0 {
		w.tells(api.Event{Kind: 3})
		return
	}
	w.coord = c
	w.tells(api.Event{Kind: 4})
	for _, p := range w.jobs() {
		w.tells(api.Event{Kind: 14, Job: p.Row.Job, Badge: p.Row.Badge, Status: p.Row.Status, Result: p.Row.Result, Texts: p.Log})
	}
}

func (w *words) tick(n int) {
	switch {
	case n == 0 && w.coord != nil:
		w.coordDoes(func() []api.Datagram { w.coord.Tick(); return nil })
	case w.runners[n] != nil:
		w.runners[n].Tick()
		w.runnerTells(n)
	}
}

func (w *words) stepOf(n int) {
	if r := w.runners[n]; r != nil {
		w.send(r.Step()...)
		w.runnerTells(n)
	}
}

func (w *words) runnerTells(n int) { w.out = append(w.out, w.runners[n].Told()...) }

func (w *words) round() {
	for n := range 2 + w.c.Runners {
		w.tick(n)
		w.stepOf(n)
	}
	now := w.way
	for range now {
		w.arrives(w.take(0))
	}
}

func (w *words) arrives(d api.Datagram) {
	switch n := d.To.Node; {
	case n == 0 && w.coord != nil:
		w.coordDoes(func() []api.Datagram { l, _ := w.coord.Hear(d.From, d.Data); return l })
	case n == 1:
		w.sinkHears(d)
	case w.runners[n] != nil && w.lives[n] == d.To.Life:
		w.runners[n].Hear(d.From, d.Data)
		w.runnerTells(n)
	}
}

func (w *words) jobs() []api.Place { return w.coord.View().Jobs }

// coordDoes has the coordinator do something; what changed is seen at its jobs.
func (w *words) coordDoes(call func() []api.Datagram) {
	ahead := w.jobs()
	said := call()
	if w.coord.Dead() {
		w.goesDown(0)
		return
	}
	var l []api.Event
	for i, p := range w.jobs() {
		if i == len(ahead) {
			l = append(l, api.Event{Kind: 2, Job: i + 1})
			continue
		}
		l = append(l, between(ahead[i], p)...)
	}
	slices.SortFunc(l, func(a, b api.Event) int { return a.Badge - b.Badge })
	w.out = append(w.out, l...)
	w.send(said...)
}

// between is what happened to a job in one call, none or one thing.
func between(a, b api.Place) []api.Event {
	e := api.Event{Job: a.Row.Job, Badge: b.Row.Badge}
	switch {
	case a.Row.Badge != b.Row.Badge:
		e.Kind, e.Who = 5, b.Row.Holder
	case len(a.Log) < len(b.Log):
		e.Kind, e.Index, e.Texts = 8, len(a.Log), b.Log[len(a.Log):]
	case a.Row.Status == b.Row.Status:
		return nil
	case b.Row.Status == 1:
		e.Kind = 6
	case b.Row.Status == 4:
		e.Kind = 7
	case b.Row.Status == 3:
		e.Kind, e.Result = 9, b.Row.Result
	}
	return []api.Event{e}
}

// sinkHears: what was admitted is seen at its artefacts.
func (w *words) sinkHears(d api.Datagram) {
	ahead := map[int]api.Artefact{}
	for _, a := range w.sink.Artefacts() {
		ahead[a.Job] = a
	}
	w.send(w.sink.Hear(d.From, d.Data)...)
	for _, a := range w.sink.Artefacts() {
		switch o := ahead[a.Job]; {
		case o.Badge != a.Badge:
			w.tells(api.Event{Kind: 13, Job: a.Job, Badge: a.Badge})
		case len(o.Pieces) < len(a.Pieces):
			n := len(a.Pieces)
			w.tells(api.Event{Kind: 13, Job: a.Job, Badge: a.Badge, Index: n, Text: a.Pieces[n-1]})
		}
	}
}

func (w *words) settled() bool {
	return w.coord != nil && !slices.ContainsFunc(w.jobs(), func(p api.Place) bool { return p.Row.Status < 3 })
}

func (w *words) clone() *words {
	c := *w
	c.d, c.sink, c.way = w.d.Clone(), w.sink.Clone(), slices.Clone(w.way)
	if w.coord != nil {
		c.coord = w.coord.Clone(c.d)
	}
	c.runners, c.lives = map[int]*runner.Runner{}, map[int]int{}
	for n, r := range w.runners {
		c.runners[n] = r.Clone()
	}
	for n, l := range w.lives {
		c.lives[n] = l
	}
	return &c
}
