package chunks_test

import (
	"fmt"
	"math/rand"
	"slices"
	"testing"

	"gaffer/api"
	"gaffer/chunks"
)

// inBounds: Acked is at most Said, and that at most Len and at most the window's end.
func inBounds(t *testing.T, s *chunks.Sender, window int) {
	t.Helper()
	if a, b, c := s.Acked(), s.Said(), s.Len(); a < 0 || a > b || b > c || b > a+window {
		t.Fatalf("window %d: Acked %d, Said %d, Len %d", window, a, b, c)
	}
}

// allSaidInTime: from here on, within resend Ticks, a Due behind each, all of the window's items are said, if there are any; and if there are none, nothing is.
func allSaidInTime(t *testing.T, s *chunks.Sender, w *words) {
	t.Helper()
	s, w = s.Clone(), w.clone()
	items := w.items()
	told := map[int]string{}
	for range w.resend {
		sameTick(t, s, w)
		for _, x := range sameDue(t, s, w) {
			if !slices.Contains(items, x) {
				t.Fatalf("%v is not of the window %v", x, items)
			}
			told[x.Index] = x.Text
		}
	}
	if len(told) != len(items) {
		t.Fatalf("%v told within %d ticks, not %v", told, w.resend, items)
	}
}

// Whatever is called: P14.2 to P14.5 by the words, and what follows of them.
func TestP14_6Walks(t *testing.T) {
	full, anew := 0, 0
	for seed := range int64(300) {
		rnd := rand.New(rand.NewSource(seed))
		window := 1 + rnd.Intn(8)
		s, w := made(t, window, 1+rnd.Intn(16))
		texts, told := []string{}, map[int]string{}
		for range 400 {
			acked := s.Acked()
			switch k := rnd.Intn(20); {
			case k < 3:
				text := fmt.Sprint(seed, " ", len(texts))
				if samePut(t, s, w, text) == api.OK {
					texts = append(texts, text)
				}
			case k < 9:
				sameTick(t, s, w)
			case k < 17:
				for _, x := range sameDue(t, s, w) {
					if x.Index < acked || x.Index >= acked+window || x.Text != texts[x.Index] {
						t.Fatalf("window %d, %d acked: %v", window, acked, x)
					}
					if old, ok := told[x.Index]; ok {
						anew++
						if old != x.Text {
							t.Fatalf("%d is %q, and was %q", x.Index, x.Text, old)
						}
					}
					told[x.Index] = x.Text
				}
			default:
				sameAck(t, s, w, s.Acked()-1+rnd.Intn(4))
			}
			inBounds(t, s, window)
			if len(told) != s.Said() {
				t.Fatalf("%d were said, not %d", len(told), s.Said())
			}
		}
		allSaidInTime(t, s, w)
		if len(texts) == 32 {
			full++
		}
	}
	if full < 100 || anew < 1000 {
		t.Errorf("just %d were full, and %d items were said anew", full, anew)
	}
}

// Every call at every state of small streams.
func TestP14_6EveryStateOfASmallStream(t *testing.T) {
	const texts = 5
	for window := 1; window <= 4; window++ {
		for resend := 1; resend <= 3; resend++ {
			first, words0 := made(t, window, resend)
			type both struct {
				s *chunks.Sender
				w *words
			}
			key := func(s *chunks.Sender) [4]int { return [4]int{s.Len(), s.Acked(), s.Said(), s.Timer()} }
			seen := map[[4]int]int{key(first): 1}
			work := []both{{first, words0}}
			for len(work) > 0 {
				at := work[0]
				work = work[1:]
				visit := func(call func(s *chunks.Sender, w *words)) {
					s, w := at.s.Clone(), at.w.clone()
					call(s, w)
					inBounds(t, s, window)
					if k := key(s); seen[k] == 0 {
						seen[k] = 1
						work = append(work, both{s, w})
					}
				}
				if at.s.Len() < texts {
					visit(func(s *chunks.Sender, w *words) { putMore(t, s, w, 1) })
				}
				visit(func(s *chunks.Sender, w *words) { sameTick(t, s, w) })
				visit(func(s *chunks.Sender, w *words) { sameDue(t, s, w) })
				for count := -1; count <= texts+1; count++ {
					visit(func(s *chunks.Sender, w *words) { sameAck(t, s, w, count) })
				}
				allSaidInTime(t, at.s, at.w)
				sameAnswers(t, at.s, at.w) // what was done to its clones is not seen here
				sameRest(t, at.s, at.w)
			}
			if want := statesOfAStream(window, resend, texts); len(seen) != want {
				t.Errorf("window %d, resend %d: %d states, not %d", window, resend, len(seen), want)
			}
		}
	}
}

// statesOfAStream: the timer may stand anyhow while something was said and a text is not acked; else it is 0.
func statesOfAStream(window, resend, texts int) int {
	n := 0
	for there := 0; there <= texts; there++ {
		for acked := 0; acked <= there; acked++ {
			for said := acked; said <= min(there, acked+window); said++ {
				if n++; said > 0 && acked < there {
					n += resend
				}
			}
		}
	}
	return n
}

// mate is the other end of a stream, as chapter 15 tells it, by a list: what has come, of which a beginning is handed on.
type mate struct {
	window int
	come   [33]string // an empty one has not
}

// next is how many were handed on.
func (m *mate) next() int { return slices.Index(m.come[:], "") }

func (m *mate) take(x chunks.Item) {
	next := m.next()
	if x.Index >= next && x.Index < next+m.window && x.Index < 32 && m.come[x.Index] == "" {
		m.come[x.Index] = x.Text
	}
}

// pair is a sender and its mate with a net between; whoever has it chooses what arrives.
type pair struct {
	t      *testing.T
	s      *chunks.Sender
	w      *words
	m      mate
	items  []chunks.Item
	counts []int
}

func newPair(t *testing.T, window, resend int) *pair {
	s, w := made(t, window, resend)
	return &pair{t: t, s: s, w: w, m: mate{window: window}}
}

func (p *pair) clone() *pair {
	o := *p
	o.s, o.w = p.s.Clone(), p.w.clone()
	o.items, o.counts = slices.Clone(p.items), slices.Clone(p.counts)
	return &o
}

func (p *pair) put() { putMore(p.t, p.s, p.w, 1) }

func (p *pair) say() { p.items = append(p.items, sameDue(p.t, p.s, p.w)...) }

// come: an item arrives; how many have come in order is said to that, also if it was not taken.
func (p *pair) come(x chunks.Item) {
	p.m.take(x)
	p.counts = append(p.counts, p.m.next())
}

func (p *pair) ack(count int) { sameAck(p.t, p.s, p.w, count) }

// safe: what is handed on is a beginning of what was put, and at least what is acked.
func (p *pair) safe() {
	p.t.Helper()
	next := p.m.next()
	if next > p.s.Len() || next < p.s.Acked() {
		p.t.Fatalf("%d handed on, of %d; %d acked", next, p.s.Len(), p.s.Acked())
	}
	for i, x := range p.w.letters[:next] {
		if p.m.come[i] != x.text {
			p.t.Fatalf("%q was handed on as the number %d, not %q", p.m.come[i], i, x.text)
		}
	}
}

// calm goes on till all is handed on and acked, within as many rounds as P14.6 says. What was under way is lost, or it arrives in the first round; acks arrive in the round of what they answer, or in the next one.
func (p *pair) calm(tickFirst, late, slowAcks bool) {
	p.t.Helper()
	if !late {
		p.items, p.counts = nil, nil
	}
	n := p.s.Len()
	rounds := n*(p.w.resend+2) + 1
	for range rounds {
		if tickFirst {
			sameTick(p.t, p.s, p.w)
		}
		p.say()
		if !tickFirst {
			sameTick(p.t, p.s, p.w)
		}
		p.deliver(slowAcks)
		p.safe()
		if p.s.Acked() == n && p.m.next() == n {
			return
		}
	}
	p.t.Fatalf("window %d, resend %d: %d acked, %d handed on, not %d, within %d rounds", p.w.window, p.w.resend, p.s.Acked(), p.m.next(), n, rounds)
}

func (p *pair) deliver(slowAcks bool) {
	p.t.Helper()
	items, counts := p.items, p.counts
	p.items, p.counts = nil, nil
	for _, count := range counts {
		p.ack(count)
	}
	for _, x := range items {
		p.come(x)
	}
	if slowAcks {
		return
	}
	for _, count := range p.counts {
		p.ack(count)
	}
	p.counts = nil
}

// everyCalm plays calm from here in each way, on clones.
func (p *pair) everyCalm() {
	p.t.Helper()
	for way := range 8 {
		p.clone().calm(way&1 > 0, way&2 > 0, way&4 > 0)
	}
}

// settle puts what is in the net into one order, each thing once: here it stays for good, so that it may arrive at any time, any number of times, or never.
func (p *pair) settle() {
	slices.SortFunc(p.items, func(a, b chunks.Item) int { return a.Index - b.Index })
	slices.Sort(p.counts)
	p.items, p.counts = slices.Compact(p.items), slices.Compact(p.counts)
}

func (p *pair) key() string {
	return fmt.Sprint(p.s.Len(), p.s.Acked(), p.s.Said(), p.s.Timer(), p.m.come, p.items, p.counts)
}

// Whatever the net does, at every state of small worlds of a sender and its mate.
func TestP14_6EveryStateOfASmallPair(t *testing.T) {
	for _, x := range []struct{ window, resend, texts int }{{1, 1, 4}, {1, 3, 3}, {2, 1, 4}, {2, 2, 3}, {3, 1, 4}, {3, 2, 3}} {
		first := newPair(t, x.window, x.resend)
		seen := map[string]int{first.key(): 1}
		work := []*pair{first}
		whole := 0
		for len(work) > 0 {
			at := work[len(work)-1]
			work = work[:len(work)-1]
			if at.s.Acked() == x.texts {
				whole++
			}
			visit := func(do func(p *pair)) {
				p := at.clone()
				do(p)
				p.safe()
				p.settle()
				if k := p.key(); seen[k] == 0 {
					seen[k] = 1
					work = append(work, p)
				}
			}
			if at.s.Len() < x.texts {
				visit(func(p *pair) { p.put() })
			}
			visit(func(p *pair) { sameTick(t, p.s, p.w) })
			visit(func(p *pair) { p.say() })
			for _, y := range at.items {
				visit(func(p *pair) { p.come(y) })
			}
			for _, count := range at.counts {
				visit(func(p *pair) { p.ack(count) })
			}
			at.everyCalm()
		}
		if len(seen) < 60 || whole == 0 {
			t.Errorf("%+v: just %d states, %d of them with all acked", x, len(seen), whole)
		}
	}
}

// pick is any thing of the net; it may be doubled, and others be lost.
func pick[T any](l *[]T, rnd *rand.Rand) T {
	i := rnd.Intn(len(*l))
	x := (*l)[i]
	if rnd.Intn(3) > 0 {
		*l = slices.Delete(*l, i, i+1)
	}
	if len(*l) > 12 || rnd.Intn(6) == 0 && len(*l) > 0 {
		i = rnd.Intn(len(*l))
		*l = slices.Delete(*l, i, i+1)
	}
	return x
}

// Long walks over a net that loses, doubles and exchanges; calm may come at any time.
func TestP14_6PairWalks(t *testing.T) {
	for window := 1; window <= 8; window++ {
		whole := 0
		for seed := range int64(48) {
			rnd := rand.New(rand.NewSource(seed))
			p := newPair(t, window, 1+int(seed)%16)
			for step := range 1200 {
				switch k := rnd.Intn(20); {
				case k == 0 && p.s.Len() < 32:
					p.put()
				case k < 6:
					sameTick(t, p.s, p.w)
					p.say()
				case k < 13 && len(p.items) > 0:
					p.come(pick(&p.items, rnd))
				case len(p.counts) > 0:
					p.ack(pick(&p.counts, rnd))
				}
				p.safe()
				if step%50 == 0 {
					p.everyCalm()
				}
			}
			if p.s.Acked() == 32 {
				whole++
			}
		}
		if whole < 3 {
			t.Errorf("window %d: just %d streams were acked as a whole", window, whole)
		}
	}
}
