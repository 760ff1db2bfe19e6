package badge_test

import (
	"math/rand"
	"testing"

	"gaffer/api"
	"gaffer/badge"
)

// kept is what one that gives badges would have on its disk: just the numbers that Next told to reserve.
type kept struct {
	reserved int
}

// draw asks for one badge, and holds it against what P10.4 says of a counter's own ones.
func draw(t *testing.T, c *badge.Counter, k *kept) (int, bool) {
	t.Helper()
	last, before := c.Last(), c.Reserved()
	b, r, e := c.Next()
	if e == api.ErrBadgeEnd {
		if last != top || b != 0 || r != 0 {
			t.Fatalf("at %d: Next: %d, %d, %v", last, b, r, e)
		}
		return 0, false
	}
	if e != api.OK || b != last+1 || b != c.Last() {
		t.Fatalf("behind %d: Next: %d, %d, %v", last, b, r, e)
	}
	if r != 0 {
		if r <= before || r > top {
			t.Fatalf("reserve %d behind %d", r, before)
		}
		k.reserved = r
	}
	if k.reserved != c.Reserved() || b > k.reserved {
		t.Fatalf("badge %d, kept %d, Reserved %d", b, k.reserved, c.Reserved())
	}
	return b, true
}

func TestP10_4RiseByOneNoneAboveReserved(t *testing.T) {
	for block := 1; block <= 16; block++ {
		for _, start := range []int{0, 3, 1 << 33, top - 70} {
			c, k := made(t, block, start), kept{reserved: start}
			for i := 1; i <= 100; i++ {
				b, ok := draw(t, c, &k)
				if ok != (start+i <= top) || ok && b != start+i {
					t.Fatalf("block %d, start %d: the badge %d is %d, %v", block, start, i, b, ok)
				}
			}
		}
	}
}

// One that loses its memory again and again, and has just what it was told to reserve: all badges rise.
func TestP10_4OneMadeOfAnothersReserved(t *testing.T) {
	for seed := range int64(300) {
		rnd := rand.New(rand.NewSource(seed))
		k := kept{}
		if seed%2 == 0 {
			k.reserved = top - 300
		}
		greatest := k.reserved
		for range 40 {
			if rnd.Intn(4) == 0 { // a greater number than the other one's Reserved will do as well
				k.reserved = min(k.reserved+rnd.Intn(5), top)
			}
			c := made(t, 1+rnd.Intn(16), k.reserved)
			for range rnd.Intn(20) {
				b, ok := draw(t, c, &k)
				if ok && b <= greatest {
					t.Fatalf("seed %d: badge %d behind %d", seed, b, greatest)
				}
				if ok {
					greatest = b
				}
			}
		}
	}
}

// By whatever blocks: all pairs of them, broken off behind every badge of three blocks.
func TestP10_4AllPairsOfBlocks(t *testing.T) {
	for first := 1; first <= 16; first++ {
		for second := 1; second <= 16; second++ {
			a := made(t, first, 4)
			for given := range 3*first + 1 {
				z := made(t, second, a.Reserved())
				if b, r, e := z.Next(); e != api.OK || b <= 4+given || b != a.Reserved()+1 || r != a.Reserved()+second {
					t.Fatalf("blocks %d, %d, behind %d badges: %d, %d, %v", first, second, given, b, r, e)
				}
				a.Next()
			}
		}
	}
}
