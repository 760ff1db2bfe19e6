package net_test

import (
	"math/rand/v2"
	"slices"
	"testing"

	"gaffer/api"
	"gaffer/net"
)

// model is the bag by the chapter's words: all that ever came into it, and how often each was taken or dropped.
type model struct {
	ever []api.Datagram
	left []int
}

func (m *model) clone() *model {
	return &model{slices.Clone(m.ever), slices.Clone(m.left)}
}

func (m *model) comes(from, to api.Addr, data string) int {
	m.ever = append(m.ever, api.Datagram{Num: len(m.ever) + 1, From: from, To: to, Data: data})
	m.left = append(m.left, 0)
	return len(m.ever)
}

// inBag: those that were neither taken nor dropped, in the order in which they came.
func (m *model) inBag() []api.Datagram {
	var bag []api.Datagram
	for i, d := range m.ever {
		if m.left[i] == 0 {
			bag = append(bag, d)
		}
	}
	return bag
}

// at: the one with so many ahead of it.
func (m *model) at(place int) (api.Datagram, api.Errno) {
	for i, d := range m.inBag() {
		if i == place {
			return d, api.OK
		}
	}
	return api.Datagram{}, api.ErrNetPlace
}

// call is one of those that change a bag.
type call struct {
	kind     int
	place    int
	from, to api.Addr
	data     string
}

const (
	callSend = iota
	callTake
	callDrop
	callDup
	callKinds
)

// do: the call on the bag and on the model; their answers must be the same.
func (c call) do(t *testing.T, n *net.Net, m *model) {
	t.Helper()
	want, fault := m.at(c.place)
	switch c.kind {
	case callSend:
		if num, must := n.Send(c.from, c.to, c.data), m.comes(c.from, c.to, c.data); num != must {
			t.Fatalf("Send: %d, not %d", num, must)
		}
	case callTake:
		if d, e := n.Take(c.place); d != want || e != fault {
			t.Fatalf("Take(%d): %v, %d, not %v, %d", c.place, d, e, want, fault)
		}
	case callDrop:
		if e := n.Drop(c.place); e != fault {
			t.Fatalf("Drop(%d): %d, not %d", c.place, e, fault)
		}
	case callDup:
		must := 0
		if fault == api.OK {
			must = m.comes(want.From, want.To, want.Data)
		}
		if num, e := n.Dup(c.place); num != must || e != fault {
			t.Fatalf("Dup(%d): %d, %d, not %d, %d", c.place, num, e, must, fault)
		}
	}
	if fault == api.OK && (c.kind == callTake || c.kind == callDrop) {
		m.left[want.Num-1]++
	}
}

// check: whatever can be asked of the bag without changing it.
func check(t *testing.T, n *net.Net, m *model) {
	t.Helper()
	bag := m.inBag()
	if n.Len() != len(bag) || n.Sent() != len(m.ever) {
		t.Fatalf("Len %d, Sent %d, not %d, %d", n.Len(), n.Sent(), len(bag), len(m.ever))
	}
	for place := -2; place < len(bag)+2; place++ {
		want, fault := m.at(place)
		if d, e := n.At(place); d != want || e != fault {
			t.Fatalf("At(%d): %v, %d, not %v, %d", place, d, e, want, fault)
		}
	}
	if told := listOf(t, n); !slices.Equal(told, bag) {
		t.Fatalf("All: %v, not %v", told, bag)
	}
}

// listOf: what All tells; the places must be 0, 1, 2 ..
func listOf(t *testing.T, n *net.Net) []api.Datagram {
	t.Helper()
	var told []api.Datagram
	for place, d := range n.All() {
		if place != len(told) {
			t.Fatalf("All: place %d behind %d others", place, len(told))
		}
		told = append(told, d)
	}
	return told
}

func anyAddr(s *rand.Rand) api.Addr {
	return api.Addr{Node: s.IntN(5) - 1, Life: s.IntN(4) - 1}
}

// anyCall: mostly of places that are there, sometimes of one beside them.
func anyCall(s *rand.Rand, size int) call {
	return call{s.IntN(callKinds), s.IntN(size+3) - 1, anyAddr(s), anyAddr(s), string(rune('a' + s.IntN(4)))}
}

// filled: a bag of so many datagrams that came one behind the other, some of which were taken again, and its model.
func filled(t *testing.T, many int) (*net.Net, *model) {
	t.Helper()
	n, m := net.New(), &model{}
	for i := range 2 * many {
		call{kind: callSend, from: api.Addr{Node: i}, to: api.Addr{Life: i}, data: string(rune('a' + i))}.do(t, n, m)
		if i%2 == 1 {
			call{kind: callTake, place: i / 3}.do(t, n, m)
		}
	}
	check(t, n, m)
	return n, m
}
