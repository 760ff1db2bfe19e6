package cluster

import (
	"gaffer/api"
	"gaffer/coord"
	"gaffer/disk"
	"gaffer/runner"
	"gaffer/sink"
)

// node is one that is up: what each of them can be asked to do, and what it says then.
type node interface {
	tick() []api.Datagram
	step() []api.Datagram
	hear(from api.Addr, data string) []api.Datagram
}

// coordNode says nothing if the power goes in what it does: whoever asked it looks for that behind it.
type coordNode struct{ *coord.Coord }

func (n coordNode) tick() []api.Datagram {
	n.Tick()
	return nil
}

func (n coordNode) step() []api.Datagram { return nil }

func (n coordNode) hear(from api.Addr, data string) []api.Datagram {
	said, _ := n.Hear(from, data)
	return said
}

// sinkNode has no clock, and speaks only when it is spoken to.
type sinkNode struct{ *sink.Sink }

func (n sinkNode) tick() []api.Datagram { return nil }

func (n sinkNode) step() []api.Datagram { return nil }

func (n sinkNode) hear(from api.Addr, data string) []api.Datagram { return n.Hear(from, data) }

// runnerNode speaks in its Step alone.
type runnerNode struct{ *runner.Runner }

func (n runnerNode) tick() []api.Datagram {
	n.Tick()
	return nil
}

func (n runnerNode) step() []api.Datagram { return n.Step() }

func (n runnerNode) hear(from api.Addr, data string) []api.Datagram {
	n.Hear(from, data)
	return nil
}

// copyOf is a node that goes its own way, nil of one that is down; a coordinator stands on the disk d then, which has the same.
func copyOf(n node, d *disk.Disk) node {
	switch n := n.(type) {
	case coordNode:
		return coordNode{n.Clone(d)}
	case sinkNode:
		return sinkNode{n.Clone()}
	case runnerNode:
		return runnerNode{n.Clone()}
	}
	return nil
}
