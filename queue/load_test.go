package queue_test

import (
	"math"
	"math/rand"
	"slices"
	"testing"

	"gaffer/api"
	"gaffer/queue"
)

var (
	someHolders = []api.Addr{{}, {Node: 2, Life: 1}, {Node: 9, Life: top}, {Node: 1, Life: 1}, {Node: 10, Life: 1}, {Node: 2, Life: 0}, {Node: 2, Life: top + 1}, {Node: 0, Life: 1}, {Node: -2, Life: 1}, {Node: 5, Life: -1}, {Node: math.MaxInt, Life: math.MaxInt}, {Node: math.MinInt, Life: math.MinInt}}
	someResults = []api.Result{{}, {Bits: 1}, {Bits: math.MaxUint64}, {Code: 1}, {Code: 7}, {Code: 8}, {Code: -1}, {Code: 1, Bits: 1}, {Code: 7, Bits: 1 << 63}, {Code: 8, Bits: 1}, {Code: -1, Bits: 2}, {Code: math.MaxInt}, {Code: math.MinInt}}
	someBadges  = []int{0, 1, -1, 2, top, top + 1, math.MinInt, math.MaxInt}
)

func TestErrorNumbers(t *testing.T) {
	for _, x := range [][2]int{
		{int(api.ErrArg), 1}, {int(api.ErrQueueFull), 110}, {int(api.ErrQueueJob), 111}, {int(api.ErrQueueState), 112}, {int(api.ErrQueueBadge), 113}, {int(api.ErrQueueForm), 114},
		{api.Queued, 1}, {api.Held, 2}, {api.Recorded, 3}, {api.Lost, 4}, {api.MaxJobs, 8}, {api.MaxAttempts, 8}, {api.MaxRunners, 8}, {api.NodeRunner, 2}, {api.TrapFail, 7}, {api.MaxNumber, top},
	} {
		if x[0] != x[1] {
			t.Errorf("%d is not %d", x[0], x[1])
		}
	}
}

// wantForm loads the rows, and holds the answer against the words.
func wantForm(t *testing.T, most int, l []api.Row) bool {
	t.Helper()
	q, e := queue.Load(most, l)
	why := fault(most, l)
	if why != "" {
		if q != nil || e != api.ErrQueueForm {
			t.Fatalf("Load(%d, %+v): %v, %v: %s", most, l, q, e, why)
		}
		return false
	}
	if q == nil || e != api.OK {
		t.Fatalf("Load(%d, %+v): %v, %v: these rows may be", most, l, q, e)
	}
	sameAnswers(t, q, retold(most, l))
	return true
}

func TestP11_1Examples(t *testing.T) {
	for _, n := range []int{0, 9} {
		if q, e := queue.New(n); q != nil || e != api.ErrArg {
			t.Errorf("New(%d): %v, %v", n, q, e)
		}
	}
	if q, e := queue.Load(2, []api.Row{{Job: 2, Status: 1}}); q != nil || e != api.ErrQueueForm {
		t.Errorf("Load: %v, %v", q, e)
	}
}

func TestP11_1EveryMost(t *testing.T) {
	for most := 1; most <= 8; most++ {
		q, w := made(t, most)
		sameAnswers(t, q, w)
		for _, l := range [][]api.Row{nil, {}} {
			sameAnswers(t, loaded(t, most, l), w)
		}
	}
}

func TestP11_1WrongMost(t *testing.T) {
	for _, most := range []int{0, -1, -8, 9, 10, 16, 1<<32 + 1, top, math.MinInt, math.MaxInt} {
		if q, e := queue.New(most); q != nil || e != api.ErrArg {
			t.Errorf("New(%d): %v, %v", most, q, e)
		}
		for _, l := range [][]api.Row{nil, {}, {{Job: 1, Status: 1}}} {
			if q, e := queue.Load(most, l); q != nil || e != api.ErrArg {
				t.Errorf("Load(%d, %+v): %v, %v", most, l, q, e)
			}
		}
	}
}

func TestR2LoadNamesTheMostFirst(t *testing.T) {
	for _, l := range [][]api.Row{{{Job: 2, Status: 1}}, {{}}, make([]api.Row, 9), {{Job: 1, Status: 4, Attempts: 9, Badge: 1}}} {
		for _, most := range []int{0, 9, -1} {
			if q, e := queue.Load(most, l); q != nil || e != api.ErrArg {
				t.Errorf("Load(%d, %+v): %v, %v", most, l, q, e)
			}
		}
	}
}

// Every row of fields in and about their bounds, under every most.
func TestP11_1EveryRow(t *testing.T) {
	may := 0
	for most := 1; most <= 8; most++ {
		for status := -1; status <= 6; status++ {
			for attempts := -1; attempts <= 9; attempts++ {
				for _, badge := range someBadges {
					for _, holder := range someHolders {
						for _, result := range someResults {
							r := api.Row{Job: 1, Status: status, Attempts: attempts, Badge: badge, Holder: holder, Result: result}
							if wantForm(t, most, []api.Row{r}) {
								may++
							}
						}
					}
				}
			}
		}
	}
	// By hand: with a badge of 1, 2 or 2^40 and of the most m: queued 1 + 3 (m - 1), held 3 m with 2 holders, recorded 3 m with 5 results, lost 3.
	want := 0
	for m := 1; m <= 8; m++ {
		want += 1 + 3*(m-1) + 6*m + 15*m + 3
	}
	if may != want {
		t.Errorf("%d rows may be, not %d", may, want)
	}
}

func TestP11_1EveryHolderAndResult(t *testing.T) {
	for node := -1; node <= 11; node++ {
		for _, life := range []int{-1, 0, 1, 2, top - 1, top, top + 1} {
			wantForm(t, 2, []api.Row{{Job: 1, Status: 2, Attempts: 1, Badge: 3, Holder: api.Addr{Node: node, Life: life}}})
		}
	}
	for code := -2; code <= 9; code++ {
		for _, bits := range []uint64{0, 1, 0x7ff0000000000001, 0x7ff8000000000001, 1 << 63, math.MaxUint64} {
			wantForm(t, 2, []api.Row{{Job: 1, Status: 3, Attempts: 1, Badge: 3, Result: api.Result{Code: code, Bits: bits}}})
		}
	}
}

func TestP11_1JobsInOrder(t *testing.T) {
	for a := -1; a <= 4; a++ {
		if wantForm(t, 3, []api.Row{{Job: a, Status: 1}}) != (a == 1) {
			t.Errorf("the job %d alone", a)
		}
		for b := -1; b <= 4; b++ {
			for c := -1; c <= 4; c++ {
				l := []api.Row{{Job: a, Status: 1}, {Job: b, Status: 1, Attempts: 1, Badge: 7}, {Job: c, Status: 4, Attempts: 3, Badge: 6}}
				if wantForm(t, 3, l) != (a == 1 && b == 2 && c == 3) {
					t.Errorf("the jobs %d, %d, %d", a, b, c)
				}
			}
		}
	}
}

// rowOf is a row that may be, by its status.
func rowOf(job, status, most, badge int) api.Row {
	r := api.Row{Job: job, Status: status, Attempts: most, Badge: badge}
	switch status {
	case api.Queued:
		r.Attempts = most - 1
		if r.Attempts == 0 {
			r.Badge = 0
		}
	case api.Held:
		r.Holder = api.Addr{Node: 2 + job%8, Life: job}
	case api.Recorded:
		r.Result = api.Result{Bits: uint64(badge)}
	}
	return r
}

func TestP11_1BadgesApart(t *testing.T) {
	for n := 2; n <= 8; n++ {
		for i := range n {
			for j := range i {
				for a := 1; a <= 4; a++ {
					for b := 1; b <= 4; b++ {
						var l []api.Row
						for job := 1; job <= n; job++ {
							l = append(l, rowOf(job, 1+job%4, 2, 50-job))
						}
						l[i], l[j] = rowOf(i+1, a, 2, 99), rowOf(j+1, b, 2, 98)
						if !wantForm(t, 2, l) {
							t.Fatalf("%+v", l)
						}
						l[j].Badge = 99
						if wantForm(t, 2, l) {
							t.Fatalf("%+v", l)
						}
					}
				}
			}
		}
	}
}

func TestP11_1NoBadgesMayBeTheSame(t *testing.T) {
	for n := 1; n <= 8; n++ {
		var l []api.Row
		for job := 1; job <= n; job++ {
			l = append(l, api.Row{Job: job, Status: 1})
		}
		if !wantForm(t, 1, l) {
			t.Errorf("%d new rows", n)
		}
	}
}

func TestP11_1AtMostEight(t *testing.T) {
	for _, n := range []int{7, 8, 9, 10, 16, 1000} {
		var l []api.Row
		for job := 1; job <= n; job++ {
			l = append(l, rowOf(job, 1+job%4, 3, job))
		}
		if wantForm(t, 3, l) != (n <= 8) {
			t.Errorf("%d rows", n)
		}
	}
}

// randomRows may be, under that most.
func randomRows(rnd *rand.Rand, most int) []api.Row {
	badges := rnd.Perm(30)
	var l []api.Row
	for job := 1; job <= rnd.Intn(9); job++ {
		r := rowOf(job, 1+rnd.Intn(4), most, 1+badges[job])
		if r.Status != api.Lost && r.Attempts > 0 {
			r.Attempts = 1 + rnd.Intn(r.Attempts)
		}
		l = append(l, r)
	}
	return l
}

// One field of rows that may be is made another one.
func TestP11_1OneFieldChanged(t *testing.T) {
	rnd := rand.New(rand.NewSource(11))
	may := 0
	for range 60000 {
		most := 1 + rnd.Intn(8)
		l := randomRows(rnd, most)
		if why := fault(most, l); why != "" {
			t.Fatalf("%d, %+v: %s", most, l, why)
		}
		if len(l) > 0 {
			r := &l[rnd.Intn(len(l))]
			switch rnd.Intn(6) {
			case 0:
				r.Job = rnd.Intn(10)
			case 1:
				r.Status = rnd.Intn(6)
			case 2:
				r.Attempts = rnd.Intn(10)
			case 3:
				r.Badge = rnd.Intn(32)
			case 4:
				r.Holder = someHolders[rnd.Intn(len(someHolders))]
			case 5:
				r.Result = someResults[rnd.Intn(len(someResults))]
			}
		}
		if wantForm(t, most, l) {
			may++
		}
	}
	if may < 5000 || may > 55000 {
		t.Errorf("just %d of them may be", may)
	}
}

func TestP11_1RowsExchanged(t *testing.T) {
	rnd := rand.New(rand.NewSource(12))
	for range 3000 {
		l := randomRows(rnd, 3)
		rnd.Shuffle(len(l), func(i, j int) { l[i], l[j] = l[j], l[i] })
		ordered := slices.IsSortedFunc(l, func(a, b api.Row) int { return a.Job - b.Job })
		if wantForm(t, 3, l) != ordered {
			t.Fatalf("%+v", l)
		}
		if len(l) > 0 {
			k := rnd.Intn(len(l))
			wantForm(t, 3, slices.Delete(slices.Clone(l), k, k+1))
			wantForm(t, 3, append(slices.Clone(l), l[k]))
		}
	}
}

func TestR4LoadNeitherChangesNorKeeps(t *testing.T) {
	h := api.Addr{Node: 4, Life: 6}
	room := make([]api.Row, 12)
	for i := range room {
		room[i] = api.Row{Job: -i, Status: 9, Badge: 77}
	}
	room[2] = api.Row{Job: 1, Status: api.Held, Attempts: 1, Badge: 5, Holder: h}
	room[3] = api.Row{Job: 2, Status: api.Queued}
	ahead := slices.Clone(room)
	l := room[2:4] // there is room behind it
	q, w := loaded(t, 2, l), retold(2, l)
	for range 3 {
		sameSubmit(t, q, w)
	}
	sameExpire(t, q, w, 5)
	sameGrant(t, q, w, 2, 9, h)
	sameSettle(t, q, w, 9, api.Result{Bits: 4})
	if !slices.Equal(room, ahead) {
		t.Errorf("the list, or the room about it, was changed: %+v", room)
	}
	for i := range room {
		room[i] = api.Row{Job: 99, Badge: 98}
	}
	sameAnswers(t, q, w)
}

func TestR4EmptyListWithRoom(t *testing.T) {
	room := make([]api.Row, 8)
	q, w := loaded(t, 1, room[:0]), &words{most: 1}
	for range 8 {
		sameSubmit(t, q, w)
	}
	for _, r := range room {
		if r != (api.Row{}) {
			t.Errorf("the room was written into: %+v", r)
		}
	}
}
