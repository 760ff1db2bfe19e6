package stitch_test

import (
	"fmt"
	"math/rand"
	"slices"
	"testing"

	"gaffer/api"
	"gaffer/chunks"
	"gaffer/stitch"
)

// pair is a sender of chapter 14 and a stitcher of its window, with a net between; whoever has it chooses what arrives.
type pair struct {
	t              *testing.T
	window, resend int
	sender         *chunks.Sender
	s              *stitch.Window
	put, handed    []string
	items          []chunks.Item
	counts         []int
}

func newPair(t *testing.T, window, resend int) *pair {
	t.Helper()
	sender, e := chunks.New(window, resend)
	s, f := stitch.New(window, 0)
	if e != api.OK || f != api.OK {
		t.Fatalf("New: %v, %v", e, f)
	}
	return &pair{t: t, window: window, resend: resend, sender: sender, s: s}
}

func (p *pair) clone() *pair {
	o := *p
	o.sender, o.s = p.sender.Clone(), p.s.Clone()
	o.put, o.handed = slices.Clone(p.put), slices.Clone(p.handed)
	o.items, o.counts = slices.Clone(p.items), slices.Clone(p.counts)
	return &o
}

func (p *pair) putOne() {
	p.t.Helper()
	text := name(len(p.put))
	if e := p.sender.Put(text); e != api.OK {
		p.t.Fatalf("Put: %v", e)
	}
	p.put = append(p.put, text)
}

func (p *pair) say() { p.items = append(p.items, p.sender.Due()...) }

// come: an item arrives; how many have come in order is said to that, also if it was refused.
func (p *pair) come(x chunks.Item) {
	l, _ := p.s.Take(x.Index, x.Text)
	p.handed = append(p.handed, l...)
	p.counts = append(p.counts, p.s.Next())
}

// safe: what is handed on is a beginning of what was put, and at least what is acked.
func (p *pair) safe() {
	p.t.Helper()
	n := len(p.handed)
	if n > len(p.put) || !slices.Equal(p.handed, p.put[:n]) || n != p.s.Next() || n < p.sender.Acked() {
		p.t.Fatalf("%q was handed on, of %q; Next %d, %d acked", p.handed, p.put, p.s.Next(), p.sender.Acked())
	}
	inBounds(p.t, p.s, p.window)
}

// calm goes on till all is handed on and acked, within the rounds that P14.6 says; what was under way arrives in the first one.
func (p *pair) calm() {
	p.t.Helper()
	n := len(p.put)
	for range n*(p.resend+2) + 1 {
		p.sender.Tick()
		p.say()
		items, counts := p.items, p.counts
		p.items, p.counts = nil, nil
		for _, count := range counts {
			p.sender.Ack(count)
		}
		for _, x := range items {
			p.come(x)
		}
		p.safe()
		if p.sender.Acked() == n {
			return
		}
	}
	p.t.Fatalf("window %d, resend %d: %d acked, %d handed on, not %d", p.window, p.resend, p.sender.Acked(), len(p.handed), n)
}

// everyCalm plays calm from here, with what is under way, and without.
func (p *pair) everyCalm() {
	p.t.Helper()
	p.clone().calm()
	o := p.clone()
	o.items, o.counts = nil, nil
	o.calm()
}

// settle puts what is in the net into one order, each thing once: here it stays for good, so that it may arrive at any time, any number of times, or never.
func (p *pair) settle() {
	slices.SortFunc(p.items, func(a, b chunks.Item) int { return a.Index - b.Index })
	slices.Sort(p.counts)
	p.items, p.counts = slices.Compact(p.items), slices.Compact(p.counts)
}

func (p *pair) key() string {
	return fmt.Sprint(p.sender.Len(), p.sender.Acked(), p.sender.Said(), p.sender.Timer(), p.s.Next(), p.s.Held(), p.items, p.counts)
}

// P14.6 with the stitcher itself: whatever the net does, at every state of small worlds.
func TestP14_6EveryStateOfASmallPair(t *testing.T) {
	for _, x := range []struct{ window, resend, texts int }{{1, 1, 4}, {2, 1, 4}, {2, 2, 3}, {3, 1, 4}, {3, 2, 3}} {
		first := newPair(t, x.window, x.resend)
		seen := map[string]int{first.key(): 1}
		work := []*pair{first}
		whole := 0
		for len(work) > 0 {
			at := work[len(work)-1]
			work = work[:len(work)-1]
			if at.sender.Acked() == x.texts {
				whole++
			}
			visit := func(do func(p *pair)) {
				p := at.clone()
				do(p)
				p.safe()
				p.settle()
				if k := p.key(); seen[k] == 0 {
					seen[k] = 1
					work = append(work, p)
				}
			}
			if at.sender.Len() < x.texts {
				visit(func(p *pair) { p.putOne() })
			}
			visit(func(p *pair) { p.sender.Tick() })
			visit(func(p *pair) { p.say() })
			for _, y := range at.items {
				visit(func(p *pair) { p.come(y) })
			}
			for _, count := range at.counts {
				visit(func(p *pair) { p.sender.Ack(count) })
			}
			at.everyCalm()
		}
		if len(seen) < 60 || whole == 0 {
			t.Errorf("%+v: just %d states, %d of them with all acked", x, len(seen), whole)
		}
	}
}

// pick is any thing of the net; it may be doubled, and others be lost.
func pick[T any](l *[]T, rnd *rand.Rand) T {
	i := rnd.Intn(len(*l))
	x := (*l)[i]
	if rnd.Intn(3) > 0 {
		*l = slices.Delete(*l, i, i+1)
	}
	if len(*l) > 12 || rnd.Intn(6) == 0 && len(*l) > 0 {
		i = rnd.Intn(len(*l))
		*l = slices.Delete(*l, i, i+1)
	}
	return x
}

// Long walks over a net that loses, doubles and exchanges; calm may come at any time.
func TestP14_6PairWalks(t *testing.T) {
	for window := 1; window <= 8; window++ {
		whole := 0
		for seed := range int64(32) {
			rnd := rand.New(rand.NewSource(seed))
			p := newPair(t, window, 1+int(seed)%16)
			for step := range 1200 {
				switch k := rnd.Intn(20); {
				case k == 0 && p.sender.Len() < 32:
					p.putOne()
				case k < 6:
					p.sender.Tick()
					p.say()
				case k < 13 && len(p.items) > 0:
					p.come(pick(&p.items, rnd))
				case len(p.counts) > 0:
					p.sender.Ack(pick(&p.counts, rnd))
				}
				p.safe()
				if step%50 == 0 {
					p.everyCalm()
				}
			}
			if len(p.handed) == 32 {
				whole++
			}
		}
		if whole < 3 {
			t.Errorf("window %d: just %d streams were handed on as a whole", window, whole)
		}
	}
}
