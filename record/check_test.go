package record_test

import (
	"math"
	"reflect"
	"strings"
	"testing"

	"gaffer/api"
	"gaffer/record"
)

func TestP8_1Examples(t *testing.T) {
	for i, x := range []struct {
		c api.Change
		e api.Errno
	}{
		{api.Change{}, api.ErrRecordKind}, {api.Change{Kind: 7}, api.ErrRecordKind}, {api.Change{Kind: -1}, api.ErrRecordKind},
		{api.Change{Kind: api.ChReserve}, api.ErrRecordField}, {api.Change{Kind: api.ChReserve, N: 5, Job: 1}, api.ErrRecordField},
		{api.Change{Kind: api.ChSettle, Badge: 1, Result: api.Result{Code: 1, Bits: 5}}, api.ErrRecordField}, {api.Change{Kind: api.ChLog, Badge: 1}, api.ErrRecordField},
		{api.Change{Kind: api.ChReserve, N: 300}, api.OK}, {api.Change{Kind: api.ChGrant, Job: 1, Badge: 2, Life: 1}, api.OK}, {api.Change{Kind: api.ChExpire, Badge: 2}, api.OK},
		{api.Change{Kind: api.ChLog, Badge: 7, Texts: []string{"a", ""}}, api.OK}, {api.Change{Kind: api.ChSettle, Badge: 1, Result: api.Result{Bits: 1}}, api.OK},
		{api.Change{Kind: api.ChSubmit, Job: 1, Program: "no program's bytes"}, api.OK},
	} {
		if e := record.Check(x.c); e != x.e {
			t.Errorf("%d: %d, not %d", i, e, x.e)
		}
	}
}

// The chapter speaks of just the fields that a change has.
func TestP8_1AllFields(t *testing.T) {
	var names []string
	for _, f := range reflect.VisibleFields(reflect.TypeFor[api.Change]()) {
		names = append(names, f.Name)
	}
	if s := strings.Join(names, " "); s != "Kind "+allNames {
		t.Error(s)
	}
}

// What may not be in the fields of a kind that is none is not told.
func TestP8_1Kinds(t *testing.T) {
	for _, kind := range []int{math.MinInt, -1 << 32, -255, -6, -1, 0, 7, 8, 16, 256 + 1, 1<<32 + 1, 1 << 40, math.MaxInt} {
		for _, c := range []api.Change{{}, {N: 1}, {N: -1, Job: 9}, {Badge: 1}, {Badge: 1, Texts: []string{strings.Repeat("a", 33)}}, {Result: api.Result{Code: 8}}} {
			c.Kind = kind
			if e := record.Check(c); e != api.ErrRecordKind {
				t.Errorf("%d: %d", kind, e)
			}
			checkChange(t, c)
		}
	}
	for kind := 1; kind <= 6; kind++ {
		if e := record.Check(api.Change{Kind: kind, Badge: -1}); e != api.ErrRecordField {
			t.Errorf("%d: %d", kind, e)
		}
	}
}

// Each field of each kind, at its edges and beyond, in changes that may be but for it.
func TestP8_1EachKindAndField(t *testing.T) {
	rnd := source(81)
	for _, k := range allKinds() {
		ends := extremes(k)
		for _, c := range append(ends[:], anyOf(rnd, k, 1024), anyOf(rnd, k, 1024)) {
			for _, name := range strings.Fields(allNames) {
				for _, v := range edges(name) {
					d := c
					set(&d, name, v)
					checkChange(t, d)
				}
			}
		}
	}
}

// A few of those edges by hand: the least and the greatest that may be, and their neighbours.
func TestP8_1Bounds(t *testing.T) {
	const top = 1 << 40
	grant := func(job, badge, slot, life int) api.Change {
		return api.Change{Kind: api.ChGrant, Job: job, Badge: badge, Slot: slot, Life: life}
	}
	for i, x := range []struct {
		of          func(int) api.Change
		least, most int
	}{
		{func(i int) api.Change { return api.Change{Kind: api.ChReserve, N: i} }, 1, top},
		{func(i int) api.Change { return api.Change{Kind: api.ChSubmit, Job: i, Program: "p"} }, 1, 8},
		{func(i int) api.Change {
			return api.Change{Kind: api.ChSubmit, Job: 1, Program: strings.Repeat("p", i)}
		}, 1, 1024},
		{func(i int) api.Change { return grant(i, 1, 1, 1) }, 1, 8}, {func(i int) api.Change { return grant(1, i, 1, 1) }, 1, top},
		{func(i int) api.Change { return grant(1, 1, i, 1) }, 0, 7}, {func(i int) api.Change { return grant(1, 1, 1, i) }, 1, top},
		{func(i int) api.Change { return api.Change{Kind: api.ChLog, Badge: i, Texts: []string{""}} }, 1, top},
		{func(i int) api.Change { return api.Change{Kind: api.ChLog, Badge: 1, Texts: make([]string, i)} }, 1, 8},
		{func(i int) api.Change { return api.Change{Kind: api.ChExpire, Badge: i} }, 1, top},
		{func(i int) api.Change { return api.Change{Kind: api.ChSettle, Badge: i} }, 1, top},
		{func(i int) api.Change { return api.Change{Kind: api.ChSettle, Badge: 1, Result: api.Result{Code: i}} }, 0, 7},
	} {
		for _, n := range []int{x.least, x.least + 1, x.most - 1, x.most} {
			if e := record.Check(x.of(n)); e != api.OK {
				t.Errorf("%d: %d: %d", i, n, e)
			}
		}
		for _, n := range []int{x.least - 1, x.most + 1} {
			if e := record.Check(x.of(n)); e != api.ErrRecordField {
				t.Errorf("%d: %d: %d", i, n, e)
			}
		}
	}
	for size, want := range map[int]api.Errno{0: api.OK, 1: api.OK, 32: api.OK, 33: api.ErrRecordField} {
		for _, texts := range [][]string{{strings.Repeat("a", size)}, {"", strings.Repeat("a", size)}, {strings.Repeat("a", size), "", ""}} {
			if e := record.Check(api.Change{Kind: api.ChLog, Badge: 1, Texts: texts}); e != want {
				t.Errorf("a text of %d: %d", size, e)
			}
		}
	}
}

// A result's bits may be any, and all NaNs are told apart; a trap has none.
func TestP8_1Results(t *testing.T) {
	for _, bits := range someBits() {
		if e := record.Check(api.Change{Kind: api.ChSettle, Badge: 1, Result: api.Result{Bits: bits}}); e != api.OK {
			t.Errorf("%x: %d", bits, e)
		}
		for code := 1; code <= 7 && bits != 0; code++ {
			if e := record.Check(api.Change{Kind: api.ChSettle, Badge: 1, Result: api.Result{Code: code, Bits: bits}}); e != api.ErrRecordField {
				t.Errorf("%d, %x: %d", code, bits, e)
			}
		}
	}
}

// Texts without elements are as good as none, where the kind has no texts.
func TestP8_1NoTexts(t *testing.T) {
	for _, k := range allKinds() {
		for _, c := range extremes(k) {
			if k.word == "ChLog" {
				continue
			}
			for _, texts := range [][]string{nil, {}, make([]string, 0, 9), []string{"a", "b"}[:0]} {
				c.Texts = texts
				if e := record.Check(c); e != api.OK {
					t.Errorf("%s: %d", k.word, e)
				}
				checkChange(t, c)
			}
			c.Texts = []string{""}
			if e := record.Check(c); e != api.ErrRecordField {
				t.Errorf("%s: %d", k.word, e)
			}
		}
	}
}

// Several fields at once, each as it may be in some change or in none.
func TestP8_1AnyChanges(t *testing.T) {
	rnd := source(82)
	names := strings.Fields(allNames)
	for range 20000 {
		c := anyChange(rnd, 40)
		for range rnd.IntN(3) {
			name := names[rnd.IntN(len(names))]
			l := edges(name)
			set(&c, name, l[rnd.IntN(len(l))])
		}
		if rnd.IntN(5) == 0 {
			c.Kind = rnd.IntN(10) - 1
		}
		checkChange(t, c)
	}
}
