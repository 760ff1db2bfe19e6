package badge_test

import (
	"testing"

	"gaffer/api"
	"gaffer/badge"
)

// words tells a counter without counting: by what it was made of and how many badges it has given.
type words struct {
	block, start, given int
}

// reserved: as many whole blocks behind the start as the given badges have begun, cut at the greatest number.
func (w words) reserved() int {
	begun := 0
	for begun*w.block < w.given {
		begun++
	}
	if r := w.start + begun*w.block; r < 1<<40 {
		return r
	}
	return 1 << 40
}

func (w words) last() int { return w.start + w.given }

// next: a badge reserves just if it is the first one of a block.
func (w *words) next() (int, int, api.Errno) {
	if w.last() == 1<<40 {
		return 0, 0, 101
	}
	w.given++
	if w.given%w.block == 1 || w.block == 1 {
		return w.last(), w.reserved(), 0
	}
	return w.last(), 0, 0
}

func made(t *testing.T, block, reserved int) *badge.Counter {
	t.Helper()
	c, e := badge.New(block, reserved)
	if e != api.OK || c == nil {
		t.Fatalf("New(%d, %d): %v, %v", block, reserved, c, e)
	}
	return c
}

func sameNumbers(t *testing.T, c *badge.Counter, w words) {
	t.Helper()
	if c.Last() != w.last() || c.Reserved() != w.reserved() {
		t.Fatalf("%+v: Last %d, Reserved %d, not %d, %d", w, c.Last(), c.Reserved(), w.last(), w.reserved())
	}
}

// sameNext asks both for the next badge, and holds them against each other.
func sameNext(t *testing.T, c *badge.Counter, w *words) {
	t.Helper()
	ahead := *w
	b, r, e := c.Next()
	wb, wr, we := w.next()
	if b != wb || r != wr || e != we {
		t.Fatalf("%+v: Next: %d, %d, %v, not %d, %d, %v", ahead, b, r, e, wb, wr, we)
	}
	sameNumbers(t, c, *w)
}
