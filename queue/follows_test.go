package queue_test

import (
	"math/rand"
	"slices"
	"testing"

	"gaffer/api"
	"gaffer/queue"
)

// goOn does calls that a seed chooses to a queue and to its words.
func goOn(t *testing.T, q *queue.Queue, w *words, seed int64) {
	t.Helper()
	rnd := rand.New(rand.NewSource(seed))
	for range 40 {
		anyCall(t, q, w, rnd)
	}
}

// anyBadge is mostly one of the rows', or a bit above all of them.
func anyBadge(w *words, rnd *rand.Rand) int {
	rows := w.rows()
	greatest := 0
	for _, r := range rows {
		greatest = max(greatest, r.Badge)
	}
	switch k := rnd.Intn(10); {
	case k == 0:
		return someBadges[rnd.Intn(len(someBadges))]
	case k < 4 || len(rows) == 0:
		return greatest + 1 + rnd.Intn(3)
	case k == 4:
		return rnd.Intn(greatest + 2)
	}
	return rows[rnd.Intn(len(rows))].Badge
}

func anyHolder(rnd *rand.Rand) api.Addr {
	if rnd.Intn(8) == 0 {
		return someHolders[rnd.Intn(len(someHolders))]
	}
	return api.Addr{Node: 2 + rnd.Intn(8), Life: 1 + rnd.Intn(3)}
}

// anyCall does one call to both; it tells the badge that was granted, or 0.
func anyCall(t *testing.T, q *queue.Queue, w *words, rnd *rand.Rand) int {
	t.Helper()
	switch k := rnd.Intn(12); {
	case k < 2:
		sameSubmit(t, q, w)
	case k < 7:
		job, badge := rnd.Intn(len(w.stories)+2), anyBadge(w, rnd)
		if rnd.Intn(2) == 0 {
			job = w.head()
		}
		if sameGrant(t, q, w, job, badge, anyHolder(rnd)) == api.OK {
			return badge
		}
	case k < 11:
		sameExpire(t, q, w, anyBadge(w, rnd))
	default:
		sameSettle(t, q, w, anyBadge(w, rnd), someResults[rnd.Intn(len(someResults))])
	}
	return 0
}

// sameRest: the queue that Load makes of a queue's rows goes on like it.
func sameRest(t *testing.T, q *queue.Queue, w *words, seed int64) {
	t.Helper()
	rows := q.Rows()
	if why := fault(w.most, rows); why != "" {
		t.Fatalf("%+v: %s", rows, why)
	}
	again, v := loaded(t, w.most, rows), retold(w.most, rows)
	sameAnswers(t, again, v)
	goOn(t, again, v, seed)
	twin, u := q.Clone(), w.clone()
	goOn(t, twin, u, seed)
	if !slices.Equal(again.Rows(), twin.Rows()) {
		t.Fatalf("of %+v: %+v, not %+v", rows, again.Rows(), twin.Rows())
	}
	sameAnswers(t, again, u)
}

// Whatever is called: P11.2 to P11.5 by the words, and what follows of them, step by step.
func TestP11_6Walks(t *testing.T) {
	ends := map[int]int{}
	for seed := range int64(150) {
		rnd := rand.New(rand.NewSource(seed))
		most := 1 + rnd.Intn(8)
		q, w := made(t, most)
		if seed%3 == 0 {
			l := randomRows(rnd, most)
			q, w = loaded(t, most, l), retold(most, l)
		}
		greatest := 0
		for _, r := range q.Rows() {
			greatest = max(greatest, r.Badge)
		}
		for step := range 200 {
			ahead := q.Rows()
			if b := anyCall(t, q, w, rnd); b != 0 {
				if b <= greatest {
					t.Fatalf("seed %d: the badge %d was granted behind %d", seed, b, greatest)
				}
				greatest = b
			}
			sameAnswers(t, q, w)
			settledStay(t, ahead, q.Rows())
			if step%20 == 0 {
				sameRest(t, q, w, seed+int64(step))
			}
		}
		for _, r := range q.Rows() {
			ends[r.Status]++
		}
	}
	for status := 1; status <= 4; status++ {
		if ends[status] < 20 {
			t.Errorf("just %d walks' rows end in the status %d", ends[status], status)
		}
	}
}

func settledStay(t *testing.T, ahead, behind []api.Row) {
	t.Helper()
	if len(behind) < len(ahead) {
		t.Fatalf("%+v became %+v", ahead, behind)
	}
	for i, r := range ahead {
		if r.Status >= api.Recorded && behind[i] != r {
			t.Fatalf("%+v became %+v", r, behind[i])
		}
	}
}

// Every call of a small world, at every row of states that it leads to: two jobs, badges up to five.
func TestP11_6EveryStateOfASmallWorld(t *testing.T) {
	bad := api.Addr{Node: 1, Life: 1}
	for most := 1; most <= 3; most++ {
		first, w := made(t, most)
		seen := map[[2]api.Row]int{}
		type both struct {
			q *queue.Queue
			w *words
		}
		work := []both{{first, w}}
		for len(work) > 0 {
			at := work[0]
			work = work[1:]
			if why := fault(most, at.q.Rows()); why != "" {
				t.Fatalf("%+v: %s", at.q.Rows(), why)
			}
			sameAnswers(t, loaded(t, most, at.q.Rows()), at.w)
			visit := func(call func(q *queue.Queue, w *words)) {
				q, w := at.q.Clone(), at.w.clone()
				call(q, w)
				rows := q.Rows()
				settledStay(t, at.w.rows(), rows)
				if !slices.Equal(rows, w.rows()) {
					t.Fatalf("%+v, not %+v", rows, w.rows())
				}
				var key [2]api.Row
				copy(key[:], rows)
				if seen[key] == 0 {
					seen[key] = 1
					work = append(work, both{q, w})
				}
			}
			if len(at.w.stories) < 2 {
				visit(func(q *queue.Queue, w *words) { sameSubmit(t, q, w) })
			}
			for badge := -1; badge <= 5; badge++ {
				visit(func(q *queue.Queue, w *words) { sameExpire(t, q, w, badge) })
				for _, x := range []api.Result{{}, {Code: 7}, {Code: 7, Bits: 1}} {
					visit(func(q *queue.Queue, w *words) { sameSettle(t, q, w, badge, x) })
				}
				for job := 0; job <= 3; job++ {
					for _, a := range []api.Addr{h, bad} {
						visit(func(q *queue.Queue, w *words) { sameGrant(t, q, w, job, badge, a) })
					}
				}
			}
			sameAnswers(t, at.q, at.w) // what was done to its clones is not seen here
		}
		if len(seen) < 100 {
			t.Errorf("most %d: just %d rows of states", most, len(seen))
		}
	}
}

// Many queues and clones of them, called in any order: each goes its own way.
func TestR7WalkOfMany(t *testing.T) {
	for seed := range int64(40) {
		rnd := rand.New(rand.NewSource(seed))
		var qs []*queue.Queue
		var ws []*words
		for range 300 {
			switch k := rnd.Intn(15); {
			case len(qs) == 0 || k == 0:
				q, w := made(t, 1+rnd.Intn(8))
				qs, ws = append(qs, q), append(ws, w)
			case k == 1:
				i := rnd.Intn(len(qs))
				qs, ws = append(qs, qs[i].Clone()), append(ws, ws[i].clone())
			default:
				i := rnd.Intn(len(qs))
				anyCall(t, qs[i], ws[i], rnd)
			}
		}
		for i := range qs {
			sameAnswers(t, qs[i], ws[i])
		}
	}
}
