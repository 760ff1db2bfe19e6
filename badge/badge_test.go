package badge_test

import (
	"math"
	"math/rand"
	"testing"

	"gaffer/api"
	"gaffer/badge"
)

const top = 1 << 40

func TestErrorNumbers(t *testing.T) {
	if api.ErrArg != 1 || api.ErrBadgeBlock != 100 || api.ErrBadgeEnd != 101 || api.MaxBlock != 16 || api.MaxNumber != top {
		t.Error("numbers of api")
	}
}

func TestP10_1Examples(t *testing.T) {
	for _, x := range []struct {
		block, reserved int
		want            api.Errno
	}{
		{0, 0, api.ErrBadgeBlock},
		{17, 0, api.ErrBadgeBlock},
		{1, -1, api.ErrArg},
		{1, top + 1, api.ErrArg},
	} {
		if c, e := badge.New(x.block, x.reserved); c != nil || e != x.want {
			t.Errorf("New(%d, %d): %v, %v, not %v", x.block, x.reserved, c, e, x.want)
		}
	}
}

func TestP10_1EveryBlockAndEdge(t *testing.T) {
	for block := 1; block <= 16; block++ {
		for _, reserved := range []int{0, 1, 2, 15, 16, 17, math.MaxInt32, math.MaxInt32 + 1, top - 17, top - 16, top - 1, top} {
			c := made(t, block, reserved)
			if c.Last() != reserved || c.Reserved() != reserved {
				t.Errorf("New(%d, %d): Last %d, Reserved %d", block, reserved, c.Last(), c.Reserved())
			}
		}
	}
}

func TestP10_1WrongNumbers(t *testing.T) {
	badBlocks := []int{0, -1, -16, 17, 18, 32, 256, top, 1<<32 + 1, math.MinInt, math.MaxInt}
	badReserved := []int{-1, -2, -top, top + 1, top + 2, 2 * top, math.MinInt, math.MaxInt}
	for _, block := range badBlocks {
		for _, reserved := range []int{0, 1, 5, top} {
			if c, e := badge.New(block, reserved); c != nil || e != api.ErrBadgeBlock {
				t.Errorf("New(%d, %d): %v, %v", block, reserved, c, e)
			}
		}
	}
	for _, reserved := range badReserved {
		for _, block := range []int{1, 2, 15, 16} {
			if c, e := badge.New(block, reserved); c != nil || e != api.ErrArg {
				t.Errorf("New(%d, %d): %v, %v", block, reserved, c, e)
			}
		}
	}
}

func TestR2OrderOfErrors(t *testing.T) {
	for _, block := range []int{math.MinInt, -1, 0, 17, math.MaxInt} {
		for _, reserved := range []int{math.MinInt, -1, top + 1, math.MaxInt} {
			if c, e := badge.New(block, reserved); c != nil || e != api.ErrBadgeBlock {
				t.Errorf("New(%d, %d): %v, %v: P10.1 names the block first", block, reserved, c, e)
			}
		}
	}
}

func TestP10_2Examples(t *testing.T) {
	c := made(t, 2, 5)
	for _, want := range [][2]int{{6, 7}, {7, 0}, {8, 9}} {
		if b, r, e := c.Next(); b != want[0] || r != want[1] || e != api.OK {
			t.Errorf("Next: %d, %d, %v, not %v", b, r, e, want)
		}
	}
	d := made(t, 3, top-1)
	if b, r, e := d.Next(); b != top || r != top || e != api.OK {
		t.Errorf("the last badge: %d, %d, %v", b, r, e)
	}
	if b, r, e := d.Next(); b != 0 || r != 0 || e != api.ErrBadgeEnd {
		t.Errorf("behind the last badge: %d, %d, %v", b, r, e)
	}
}

func TestP10_2EveryBlock(t *testing.T) {
	for block := 1; block <= 16; block++ {
		for _, start := range []int{0, 1, 2, 7, 16, 1000, math.MaxUint32 - 20, top / 2, top - 101} {
			c, w := made(t, block, start), words{block: block, start: start}
			sameNumbers(t, c, w)
			for range 100 {
				sameNext(t, c, &w)
			}
		}
	}
}

// Every distance from the end that a block can straddle, and the calls behind the end.
func TestP10_2End(t *testing.T) {
	for block := 1; block <= 16; block++ {
		for left := 0; left <= 50; left++ {
			c, w := made(t, block, top-left), words{block: block, start: top - left}
			for range left + 3 {
				sameNext(t, c, &w)
			}
			if c.Last() != top || c.Reserved() != top {
				t.Errorf("block %d, %d left: Last %d, Reserved %d", block, left, c.Last(), c.Reserved())
			}
		}
	}
}

func TestR2EndChangesNothing(t *testing.T) {
	c := made(t, 4, top)
	for range 20 {
		if b, r, e := c.Next(); b != 0 || r != 0 || e != api.ErrBadgeEnd {
			t.Fatalf("Next: %d, %d, %v", b, r, e)
		}
		if c.Last() != top || c.Reserved() != top {
			t.Fatalf("Last %d, Reserved %d", c.Last(), c.Reserved())
		}
	}
}

func TestP10_3AskingChangesNothing(t *testing.T) {
	c, w := made(t, 3, 5), words{block: 3, start: 5}
	for range 30 {
		for range 3 {
			sameNumbers(t, c, w)
			c.Clone()
		}
		sameNext(t, c, &w)
	}
}

func TestP10_3CloneR7(t *testing.T) {
	for block := 1; block <= 16; block++ {
		for _, start := range []int{0, 5, top - 40, top - 9, top} {
			for given := range 35 {
				c, w := made(t, block, start), words{block: block, start: start}
				for range given {
					sameNext(t, c, &w)
				}
				d, wd := c.Clone(), w
				if d == nil || d == c {
					t.Fatalf("Clone: %p of %p", d, c)
				}
				sameNumbers(t, d, wd)
				for range 20 {
					sameNext(t, d, &wd)
					sameNumbers(t, c, w)
				}
				for range 20 {
					sameNext(t, c, &w)
					sameNumbers(t, d, wd)
				}
			}
		}
	}
}

func TestR4CountersAreApart(t *testing.T) {
	a, wa := made(t, 2, 5), words{block: 2, start: 5}
	b, wb := made(t, 2, 5), words{block: 2, start: 5}
	for range 9 {
		sameNext(t, a, &wa)
		sameNumbers(t, b, wb)
	}
	sameNext(t, b, &wb)
	sameNumbers(t, a, wa)
}

// Many counters and clones, asked in any order: each goes its own way.
func TestP10_2WalkOfMany(t *testing.T) {
	rnd := rand.New(rand.NewSource(10))
	for range 60 {
		var cs []*badge.Counter
		var ws []words
		for range 400 {
			switch k := rnd.Intn(10); {
			case len(cs) == 0 || k == 0:
				w := words{block: 1 + rnd.Intn(16), start: rnd.Intn(100)}
				if rnd.Intn(2) == 0 {
					w.start = top - w.start
				}
				cs, ws = append(cs, made(t, w.block, w.start)), append(ws, w)
			case k == 1:
				i := rnd.Intn(len(cs))
				cs, ws = append(cs, cs[i].Clone()), append(ws, ws[i])
			default:
				i := rnd.Intn(len(cs))
				sameNext(t, cs[i], &ws[i])
			}
		}
		for i := range cs {
			sameNumbers(t, cs[i], ws[i])
		}
	}
}
