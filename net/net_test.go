package net_test

import (
	"math"
	"math/rand/v2"
	"strings"
	"testing"

	"gaffer/api"
	"gaffer/net"
)

func TestP3_1Empty(t *testing.T) {
	n := net.New()
	if n.Len() != 0 || n.Sent() != 0 {
		t.Error(n.Len(), n.Sent())
	}
	for place, d := range n.All() {
		t.Error(place, d)
	}
	if net.New() == n {
		t.Error("two bags are one")
	}
}

func TestP3_1SendAny(t *testing.T) {
	numbers := []int{0, 1, 2, 9, -1, math.MaxInt, math.MinInt}
	texts := []string{"", "a", "\x00", "\xff\xfe", "ä", strings.Repeat("long", 1<<16)}
	n, m := net.New(), &model{}
	for _, node := range numbers {
		for _, life := range numbers {
			for _, data := range texts {
				from, to := api.Addr{Node: node, Life: life}, api.Addr{Node: life, Life: node}
				call{kind: callSend, from: from, to: to, data: data}.do(t, n, m)
			}
		}
	}
	check(t, n, m)
}

func TestP3_1Counts(t *testing.T) {
	n := net.New()
	for i := 1; i <= 100; i++ {
		if num := n.Send(api.Addr{}, api.Addr{}, "x"); num != i || n.Len() != i || n.Sent() != i {
			t.Fatal(num, n.Len(), n.Sent())
		}
	}
	for i := 1; i <= 100; i++ {
		if n.Drop(0); n.Len() != 100-i || n.Sent() != 100 {
			t.Fatal(n.Len(), n.Sent())
		}
	}
	if num := n.Send(api.Addr{}, api.Addr{}, "x"); num != 101 || n.Len() != 1 || n.Sent() != 101 {
		t.Error(num, n.Len(), n.Sent())
	}
}

func TestP3_2Examples(t *testing.T) {
	n := net.New()
	x, y := api.Addr{Node: 2, Life: 1}, api.Addr{Node: 1}
	if n.Send(x, y, "a") != 1 || n.Send(y, x, "b") != 2 {
		t.Error("Send")
	}
	if num, e := n.Dup(0); num != 3 || e != api.OK || n.Len() != 3 || n.Sent() != 3 {
		t.Error(num, e, n.Len(), n.Sent())
	}
	data := ""
	for _, d := range n.All() {
		data += d.Data
	}
	if data != "aba" {
		t.Error(data)
	}
	if d, e := n.Take(1); d != (api.Datagram{Num: 2, From: y, To: x, Data: "b"}) || e != api.OK {
		t.Error(d, e)
	}
	if e := n.Drop(0); e != api.OK {
		t.Error(e)
	}
	if d, e := n.At(0); d != (api.Datagram{Num: 3, From: x, To: y, Data: "a"}) || e != api.OK || n.Sent() != 3 {
		t.Error(d, e, n.Sent())
	}
}

// A place beside those that are there answers the error and zeros, and changes nothing.
func TestP3_2NoSuchPlace(t *testing.T) {
	for size := range 5 {
		n, m := filled(t, size)
		for _, place := range []int{-1, -2, math.MinInt, size, size + 1, math.MaxInt} {
			if d, e := n.At(place); d != (api.Datagram{}) || e != api.ErrNetPlace {
				t.Errorf("At(%d) of %d: %v, %d", place, size, d, e)
			}
			if d, e := n.Take(place); d != (api.Datagram{}) || e != api.ErrNetPlace {
				t.Errorf("Take(%d) of %d: %v, %d", place, size, d, e)
			}
			if e := n.Drop(place); e != api.ErrNetPlace {
				t.Errorf("Drop(%d) of %d: %d", place, size, e)
			}
			if num, e := n.Dup(place); num != 0 || e != api.ErrNetPlace {
				t.Errorf("Dup(%d) of %d: %d, %d", place, size, num, e)
			}
			check(t, n, m)
		}
		call{kind: callSend, data: "z"}.do(t, n, m)
		check(t, n, m)
	}
}

func TestP3_2EachPlace(t *testing.T) {
	const size = 6
	for kind := range callKinds {
		for place := range size {
			n, m := filled(t, size)
			call{kind: kind, place: place}.do(t, n, m)
			check(t, n, m)
		}
	}
}

// All rows of up to four calls on a bag of two: of the places that are there, and of those beside them.
func TestP3_2ShortRows(t *testing.T) {
	var calls []call
	for place := -1; place <= 3; place++ {
		for kind := callTake; kind < callKinds; kind++ {
			calls = append(calls, call{kind: kind, place: place})
		}
	}
	calls = append(calls, call{kind: callSend, from: api.Addr{Node: 5}, data: "s"})
	var rows func(n *net.Net, m *model, left int)
	rows = func(n *net.Net, m *model, left int) {
		check(t, n, m)
		for _, c := range calls {
			if left > 0 {
				n2, m2 := n.Clone(), m.clone()
				c.do(t, n2, m2)
				rows(n2, m2, left-1)
			}
		}
	}
	n, m := filled(t, 2)
	rows(n, m, 4)
}

func TestP3_2LongRows(t *testing.T) {
	s := rand.New(rand.NewPCG(3, 2))
	for range 60 {
		n, m := net.New(), &model{}
		for range 300 {
			anyCall(s, n.Len()).do(t, n, m)
			check(t, n, m)
		}
	}
}
