package net_test

import (
	"math/rand/v2"
	"slices"
	"testing"

	"gaffer/api"
	"gaffer/net"
)

// Whatever is done to the bag on the way, a range tells what was there at its beginning, and all that was done is there behind it.
func TestP3_3ChangedWhileGoneThrough(t *testing.T) {
	const size = 5
	s := rand.New(rand.NewPCG(3, 3))
	for range 500 {
		n, m := filled(t, size)
		begin, told := m.inBag(), []api.Datagram{}
		for place, d := range n.All() {
			if place != len(told) {
				t.Fatal("place", place)
			}
			told = append(told, d)
			for range s.IntN(4) {
				anyCall(s, n.Len()).do(t, n, m)
				check(t, n, m)
			}
		}
		if !slices.Equal(told, begin) {
			t.Fatalf("%v, not %v", told, begin)
		}
		check(t, n, m)
	}
}

func TestP3_3EmptiedAndFilledOnTheWay(t *testing.T) {
	n, m := filled(t, 4)
	begin, told := m.inBag(), []api.Datagram{}
	for _, d := range n.All() {
		told = append(told, d)
		for n.Len() > 0 {
			call{kind: callDrop}.do(t, n, m)
		}
		for range 6 {
			call{kind: callSend, data: "other"}.do(t, n, m)
		}
	}
	if !slices.Equal(told, begin) {
		t.Errorf("%v, not %v", told, begin)
	}
	check(t, n, m)
}

// What it tells is what there is when a range begins, not when All was called.
func TestP3_3ToldAnew(t *testing.T) {
	n, m := net.New(), &model{}
	all := n.All()
	if all == nil {
		t.Fatal("nil")
	}
	for i := range 6 {
		var told []api.Datagram
		for _, d := range all {
			told = append(told, d)
		}
		if !slices.Equal(told, m.inBag()) {
			t.Fatalf("%d: %v, not %v", i, told, m.inBag())
		}
		call{kind: callSend, data: "x"}.do(t, n, m)
		if i == 3 {
			call{kind: callTake, place: 1}.do(t, n, m)
		}
	}
}

func TestP3_3LeftEarly(t *testing.T) {
	const size = 5
	n, m := filled(t, size)
	all := n.All()
	for stop := range size {
		count := 0
		for place := range all {
			count++
			if place == stop {
				break
			}
		}
		if count != stop+1 {
			t.Errorf("%d told up to place %d", count, stop)
		}
		// Called as a function: it must not go on when it was told to stop.
		count = 0
		all(func(place int, _ api.Datagram) bool { count++; return place < stop })
		if count != stop+1 {
			t.Errorf("%d told up to place %d", count, stop)
		}
		check(t, n, m)
	}
}

func TestP3_3WithinItself(t *testing.T) {
	n, m := filled(t, 4)
	all, bag, outer := n.All(), m.inBag(), 0
	for i, d := range all {
		inner := 0
		for j, e := range all {
			if j != inner || e != bag[j] {
				t.Error(i, j, e)
			}
			inner++
		}
		if i != outer || d != bag[i] || inner != len(bag) {
			t.Error(i, d, inner)
		}
		outer++
	}
	if outer != len(bag) {
		t.Error(outer)
	}
}

// The inner range begins when the bag has changed: it tells the new one, the outer one goes on with the old.
func TestP3_3WithinItselfChanged(t *testing.T) {
	n, m := filled(t, 4)
	all, begin, told := n.All(), m.inBag(), []api.Datagram{}
	for _, d := range all {
		told = append(told, d)
		call{kind: callDrop}.do(t, n, m)
		call{kind: callDup, place: 1}.do(t, n, m)
		var inner []api.Datagram
		for _, e := range all {
			inner = append(inner, e)
		}
		if !slices.Equal(inner, m.inBag()) {
			t.Errorf("%v, not %v", inner, m.inBag())
		}
	}
	if !slices.Equal(told, begin) {
		t.Errorf("%v, not %v", told, begin)
	}
}

// Of two clones each answers as its own calls make it, whichever is changed first, and however much room it has.
func TestP3_3ClonesGoTheirWay(t *testing.T) {
	s := rand.New(rand.NewPCG(3, 4))
	for size := range 20 {
		for range 10 {
			n, m := filled(t, size)
			ns, ms := []*net.Net{n, n.Clone()}, []*model{m, m.clone()}
			ns, ms = append(ns, ns[1].Clone()), append(ms, m.clone())
			for range 40 {
				i := s.IntN(len(ns))
				anyCall(s, ns[i].Len()).do(t, ns[i], ms[i])
				for j := range ns {
					check(t, ns[j], ms[j])
				}
			}
		}
	}
}

// An iterator is of its own bag, and a range over one goes on whatever a clone does.
func TestP3_3CloneWhileGoneThrough(t *testing.T) {
	n, m := filled(t, 5)
	bag, all := m.inBag(), n.All()
	c := n.Clone()
	for place, d := range all {
		if d != bag[place] {
			t.Error(place, d)
		}
		c.Drop(0)
		c.Send(api.Addr{Node: 9}, api.Addr{Node: 9}, "of the clone")
	}
	check(t, n, m)
	if told := listOf(t, c); len(told) != 5 || told[0].Num != n.Sent()+1 {
		t.Error(told)
	}
}

func TestP3_3CloneOfNothing(t *testing.T) {
	n := net.New()
	c := n.Clone()
	check(t, c, &model{})
	n.Send(api.Addr{}, api.Addr{}, "a")
	check(t, c, &model{})
	if num := c.Send(api.Addr{}, api.Addr{}, "b"); num != 1 {
		t.Error(num)
	}
	if d, _ := n.At(0); d.Data != "a" {
		t.Error(d)
	}
}

// Each Num is of one datagram, which is in the bag or has left it once; those of the bag rise.
func TestP3_4Follows(t *testing.T) {
	s := rand.New(rand.NewPCG(3, 5))
	for range 200 {
		n, ends := net.New(), map[int]int{}
		for range 100 {
			place := s.IntN(n.Len()+3) - 1
			switch s.IntN(5) {
			case 0, 1:
				n.Send(anyAddr(s), anyAddr(s), "x")
			case 2:
				if d, e := n.Take(place); e == api.OK {
					ends[d.Num]++
				}
			case 3:
				if d, e := n.At(place); n.Drop(place) == api.OK {
					if ends[d.Num]++; e != api.OK {
						t.Fatal("dropped where none was")
					}
				}
			case 4:
				n.Dup(place)
			}
			checkNums(t, n, ends)
		}
	}
}

func checkNums(t *testing.T, n *net.Net, ends map[int]int) {
	t.Helper()
	seen, last := map[int]int{}, 0
	for place, d := range n.All() {
		if d.Num <= last {
			t.Fatalf("place %d: Num %d behind %d", place, d.Num, last)
		}
		last = d.Num
		seen[d.Num]++
	}
	for num := 1; num <= n.Sent(); num++ {
		if seen[num]+ends[num] != 1 {
			t.Fatalf("Num %d: %d in the bag, %d that left it", num, seen[num], ends[num])
		}
	}
	if len(seen)+len(ends) != n.Sent() {
		t.Fatalf("%d in the bag, %d that left it, %d sent", len(seen), len(ends), n.Sent())
	}
}
