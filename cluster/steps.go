package cluster

import (
	"gaffer/api"
	"gaffer/coord"
	"gaffer/runner"
	"gaffer/wire"
)

// mostRounds of one step.
const mostRounds = 256

// do does a step: its events, or why it is refused; then nothing has changed.
func (x *Cluster) do(s api.Step) ([]api.Event, api.Errno) {
	switch s.Kind {
	case api.StSubmit:
		return x.submit(s.Text)
	case api.StTick:
		return x.alone(s.A, node.tick)
	case api.StStep:
		return x.alone(s.A, node.step)
	case api.StDeliver:
		return x.deliver(s.K)
	case api.StDrop:
		return nil, x.net.Drop(s.K)
	case api.StDup:
		_, e := x.net.Dup(s.K)
		return nil, e
	case api.StInject:
		return x.inject(s.A, s.Text)
	case api.StCrash:
		return x.crash(s.A)
	case api.StStart:
		return x.start(s)
	case api.StCut:
		return nil, x.disk.Arm(s.K, s.X)
	case api.StRound:
		return x.rounds(1), api.OK
	case api.StSettle:
		if s.K < 1 || s.K > mostRounds {
			return nil, api.ErrArg
		}
		return x.rounds(s.K), api.OK
	}
	return nil, api.ErrClusterStep
}

func (x *Cluster) submit(program string) ([]api.Event, api.Errno) {
	c, up := x.coordinator()
	if !up {
		return nil, api.ErrClusterDown
	}
	if _, e := c.Submit(program); e != api.OK && e != api.ErrDead {
		return nil, e
	}
	return x.behind(api.NodeCoord), api.OK
}

// alone has one node do something that it can do only if it is up.
func (x *Cluster) alone(number int, what func(node) []api.Datagram) ([]api.Event, api.Errno) {
	switch {
	case !x.isNode(number):
		return nil, api.ErrClusterNode
	case !x.Up(number):
		return nil, api.ErrClusterDown
	}
	return x.acts(number, what), api.OK
}

func (x *Cluster) deliver(place int) ([]api.Event, api.Errno) {
	d, e := x.net.Take(place)
	if e != api.OK {
		return nil, e
	}
	return x.arrives(d), api.OK
}

// inject hands a node bytes that nobody in the fleet could have said.
func (x *Cluster) inject(number int, text string) ([]api.Event, api.Errno) {
	if !x.isNode(number) {
		return nil, api.ErrClusterNode
	}
	if _, e := wire.Decode(text); e == api.OK {
		return nil, api.ErrClusterBytes
	}
	return x.arrives(api.Datagram{To: x.address(number), Data: text}), api.OK
}

func (x *Cluster) crash(number int) ([]api.Event, api.Errno) {
	if !x.isNode(number) {
		return nil, api.ErrClusterNode
	}
	switch x.nodes[number].(type) {
	case sinkNode: // it never crashes
		return nil, api.ErrClusterNode
	case nil:
		return nil, api.ErrClusterDown
	}
	return []api.Event{x.goesDown(number)}, api.OK
}

func (x *Cluster) start(s api.Step) ([]api.Event, api.Errno) {
	switch {
	case !x.isNode(s.A) || s.A == api.NodeSink:
		return nil, api.ErrClusterNode
	case x.Up(s.A):
		return nil, api.ErrClusterUp
	case s.A == api.NodeCoord:
		return x.startCoord(s.K, s.X)
	}
	return x.startRunner(s.A)
}

// startCoord starts it on a copy of the disk, which takes the disk's place: so a step that is refused has not revived it.
func (x *Cluster) startCoord(cut, bytes int) ([]api.Event, api.Errno) {
	d := x.disk.Clone()
	d.Revive()
	d.Forget()
	if e := d.Arm(cut, bytes); e != api.OK {
		return nil, e
	}
	c, e := coord.Open(x.config, d)
	switch e {
	case api.OK:
		x.disk = d
		up := x.goesUp(api.NodeCoord, coordNode{c})
		return append([]api.Event{up}, shown(c.View())...), api.OK
	case api.ErrDead:
		x.disk = d
		return []api.Event{x.goesDown(api.NodeCoord)}, api.OK
	}
	return nil, e
}

func (x *Cluster) startRunner(number int) ([]api.Event, api.Errno) {
	life := x.lives[number] + 1
	r, e := runner.New(x.config, number-api.NodeRunner, life)
	if e != api.OK {
		return nil, e
	}
	x.lives[number] = life
	return []api.Event{x.goesUp(number, runnerNode{r})}, api.OK
}

func (x *Cluster) rounds(many int) []api.Event {
	var out []api.Event
	for range many {
		out = append(out, x.round()...)
	}
	return out
}

// round is a good one.
func (x *Cluster) round() []api.Event {
	var out []api.Event
	for number := range x.nodes {
		out = append(out, x.acts(number, node.tick)...)
		out = append(out, x.acts(number, node.step)...)
	}
	// So many are under way now: what is said to them comes behind them, and waits.
	for range x.net.Len() {
		d, _ := x.net.Take(0)
		out = append(out, x.arrives(d)...)
	}
	return out
}

// arrives: nothing comes of a datagram to a node that is down, or to a life that is over.
func (x *Cluster) arrives(d api.Datagram) []api.Event {
	if !x.isNode(d.To.Node) || x.address(d.To.Node) != d.To {
		return nil
	}
	return x.acts(d.To.Node, func(n node) []api.Datagram { return n.hear(d.From, d.Data) })
}

// acts has a node do something, if it is up: the events of that. What it says is under way then.
func (x *Cluster) acts(number int, what func(node) []api.Datagram) []api.Event {
	if !x.Up(number) {
		return nil
	}
	for _, d := range what(x.nodes[number]) {
		x.net.Send(d.From, d.To, d.Data)
	}
	return x.behind(number)
}

// behind is what is told behind something that a node did; a coordinator whose power went in it is down then.
func (x *Cluster) behind(number int) []api.Event {
	switch n := x.nodes[number].(type) {
	case coordNode:
		x.disk.Forget() // nobody asks for the raw writes
		out := changed(n)
		if n.Dead() {
			out = append(out, x.goesDown(number))
		}
		return out
	case sinkNode:
		return n.Told()
	case runnerNode:
		return n.Told()
	}
	return nil
}

func (x *Cluster) goesDown(number int) api.Event {
	x.nodes[number] = nil
	return api.Event{Kind: api.EvDown, Who: x.address(number)}
}

func (x *Cluster) goesUp(number int, n node) api.Event {
	x.nodes[number] = n
	return api.Event{Kind: api.EvUp, Who: x.address(number)}
}
