package queue_test

import (
	"math"
	"slices"
	"testing"

	"gaffer/api"
)

var h = api.Addr{Node: 2, Life: 1}

// The chapter's table of examples, call by call.
func TestP11Examples(t *testing.T) {
	q, w := made(t, 2)
	if q.Head() != 0 {
		t.Error("Head of none")
	}
	for want := 1; want <= 2; want++ {
		if n, e := q.Submit(); n != want || e != api.OK {
			t.Errorf("Submit: %d, %v", n, e)
		}
		w.submit()
	}
	if q.Head() != 1 {
		t.Error("Head")
	}
	for _, x := range []struct {
		job, badge int
		holder     api.Addr
		want       api.Errno
	}{
		{3, 1, h, api.ErrQueueJob}, {1, 0, h, api.ErrQueueBadge}, {1, 5, api.Addr{Node: 1, Life: 1}, api.ErrArg},
		{1, 5, h, api.OK}, {1, 6, h, api.ErrQueueState}, {2, 5, h, api.ErrQueueBadge},
	} {
		if e := sameGrant(t, q, w, x.job, x.badge, x.holder); e != x.want {
			t.Errorf("Grant(%d, %d, %v): %v", x.job, x.badge, x.holder, e)
		}
		sameAnswers(t, q, w)
	}
	if r, ok := q.Find(5); q.Head() != 2 || !ok || r != (api.Row{Job: 1, Status: api.Held, Attempts: 1, Badge: 5, Holder: h}) {
		t.Errorf("Find(5): %+v", r)
	}
	if r, ok := q.Find(0); ok || r != (api.Row{}) {
		t.Errorf("Find(0): %+v", r)
	}
	if n, m := q.Open(); n != 2 || m != 3 {
		t.Errorf("Open: %d, %d", n, m)
	}
	if n, e := q.Expire(4); n != 0 || e != api.ErrQueueBadge {
		t.Errorf("Expire(4): %d, %v", n, e)
	}
	if n, e := q.Expire(5); n != 1 || e != api.OK {
		t.Errorf("Expire(5): %d, %v", n, e)
	}
	if n, e := q.Expire(5); n != 0 || e != api.ErrQueueBadge || q.Head() != 1 {
		t.Errorf("Expire(5) again: %d, %v", n, e)
	}
	if e := q.Grant(1, 7, h); e != api.OK {
		t.Errorf("Grant(1, 7, h): %v", e)
	}
	if n, e := q.Expire(7); n != 1 || e != api.OK {
		t.Errorf("Expire(7): %d, %v", n, e)
	}
	if r, ok := q.Row(1); !ok || r != (api.Row{Job: 1, Status: api.Lost, Attempts: 2, Badge: 7}) {
		t.Errorf("Row(1): %+v", r)
	}
	if e := q.Grant(2, 8, h); e != api.OK {
		t.Errorf("Grant(2, 8, h): %v", e)
	}
	if n, e := q.Settle(8, api.Result{Code: 1, Bits: 3}); n != 0 || e != api.ErrArg {
		t.Errorf("Settle(8, {1, 3}): %d, %v", n, e)
	}
	if n, e := q.Settle(8, api.Result{Bits: 3}); n != 2 || e != api.OK {
		t.Errorf("Settle(8, {0, 3}): %d, %v", n, e)
	}
	if r, ok := q.Row(2); !ok || r != (api.Row{Job: 2, Status: api.Recorded, Attempts: 1, Badge: 8, Result: api.Result{Bits: 3}}) {
		t.Errorf("Row(2): %+v", r)
	}
	if n, m := q.Open(); n != 0 || m != 0 {
		t.Errorf("Open: %d, %d", n, m)
	}
}

func TestP11_2SubmitTillFull(t *testing.T) {
	for most := 1; most <= 8; most++ {
		q, w := made(t, most)
		for want := 1; want <= 8; want++ {
			if n, e := q.Submit(); n != want || e != api.OK {
				t.Fatalf("Submit: %d, %v, not %d", n, e, want)
			}
			w.submit()
			if r, ok := q.Row(want); !ok || r != (api.Row{Job: want, Status: 1}) {
				t.Fatalf("a new row: %+v, %v", r, ok)
			}
			sameAnswers(t, q, w)
		}
		for range 3 {
			if n, e := q.Submit(); n != 0 || e != api.ErrQueueFull {
				t.Fatalf("Submit of the ninth: %d, %v", n, e)
			}
			sameAnswers(t, q, w)
		}
	}
}

// That all jobs are settled makes no room: rows stay.
func TestP11_2FullOfSettledOnes(t *testing.T) {
	q, w := made(t, 1)
	for job := 1; job <= 8; job++ {
		sameSubmit(t, q, w)
		sameGrant(t, q, w, job, job, h)
		if job%2 == 0 {
			sameExpire(t, q, w, job)
		} else {
			sameSettle(t, q, w, job, api.Result{})
		}
	}
	if n, e := q.Submit(); n != 0 || e != api.ErrQueueFull {
		t.Errorf("Submit: %d, %v", n, e)
	}
	sameAnswers(t, q, w)
}

// Head, Open, Find of every row of statuses that four jobs can have.
func TestP11_2HeadP11_5OpenEveryRowOfStatuses(t *testing.T) {
	for most := 1; most <= 3; most++ {
		for k := range 256 {
			var l []api.Row
			head, open, left := 0, 0, 0
			for job, rest := 1, k; job <= 4; job, rest = job+1, rest/4 {
				r := rowOf(job, 1+rest%4, most, 20-job)
				l = append(l, r)
				if r.Status == api.Queued && head == 0 {
					head = job
				}
				if r.Status == api.Queued || r.Status == api.Held {
					open, left = open+1, left+most-r.Attempts
				}
			}
			q := loaded(t, most, l)
			if n, m := q.Open(); q.Head() != head || n != open || m != left {
				t.Fatalf("%+v: Head %d, Open %d, %d, not %d, %d, %d", l, q.Head(), n, m, head, open, left)
			}
			sameAnswers(t, q, retold(most, l))
		}
	}
}

func TestP11_3NoSuchJob(t *testing.T) {
	q, w := made(t, 2)
	for jobs := range 9 {
		for _, job := range []int{math.MinInt, -1, 0, jobs + 1, jobs + 2, 9, 10, 1<<32 + 1, top, math.MaxInt} {
			if e := q.Grant(job, 1, h); e != api.ErrQueueJob {
				t.Fatalf("Grant(%d) of %d jobs: %v", job, jobs, e)
			}
			sameAnswers(t, q, w)
		}
		if jobs < 8 {
			sameSubmit(t, q, w)
		}
	}
}

func TestP11_3NotQueued(t *testing.T) {
	for _, status := range []int{api.Held, api.Recorded, api.Lost} {
		for attempts := 1; attempts <= 3; attempts++ {
			r := rowOf(1, status, 3, 4)
			if status != api.Lost {
				r.Attempts = attempts
			}
			q, w := loaded(t, 3, []api.Row{r}), retold(3, []api.Row{r})
			if e := q.Grant(1, 5, h); e != api.ErrQueueState {
				t.Errorf("%+v: Grant: %v", r, e)
			}
			sameAnswers(t, q, w)
		}
	}
}

func TestP11_3BadgeEdges(t *testing.T) {
	q, w := made(t, 8)
	for range 3 {
		sameSubmit(t, q, w)
	}
	for _, badge := range []int{math.MinInt, -top, -1, 0, top + 1, top + 2, math.MaxInt} {
		if e := q.Grant(1, badge, h); e != api.ErrQueueBadge {
			t.Errorf("Grant(1, %d, h): %v", badge, e)
		}
		sameAnswers(t, q, w)
	}
	if e := sameGrant(t, q, w, 2, 1, h); e != api.OK {
		t.Errorf("the badge 1: %v", e)
	}
	sameExpire(t, q, w, 1)
	if e := sameGrant(t, q, w, 2, 1, h); e != api.ErrQueueBadge {
		t.Errorf("its own last badge: %v", e)
	}
	if e := sameGrant(t, q, w, 3, top, h); e != api.OK {
		t.Errorf("the greatest badge: %v", e)
	}
	for _, badge := range []int{2, top - 1, top, top + 1} {
		if e := sameGrant(t, q, w, 1, badge, h); e != api.ErrQueueBadge {
			t.Errorf("behind the greatest badge: %d: %v", badge, e)
		}
	}
	sameAnswers(t, q, w)
}

// The greatest Badge counts wherever it stands, and whatever became of its row.
func TestP11_3AboveAllBadges(t *testing.T) {
	for where := 1; where <= 8; where++ {
		for status := 1; status <= 4; status++ {
			var l []api.Row
			for job := 1; job <= 8; job++ {
				if job == where {
					l = append(l, rowOf(job, status, 2, 40))
				} else {
					l = append(l, rowOf(job, api.Queued, 2, 20+job))
				}
			}
			for job := 1; job <= 8; job++ {
				if job == where && status != api.Queued {
					continue
				}
				q, w := loaded(t, 2, l), retold(2, l)
				for badge := 19; badge <= 40; badge++ {
					if e := q.Grant(job, badge, h); e != api.ErrQueueBadge {
						t.Fatalf("%+v: Grant(%d, %d, h): %v", l, job, badge, e)
					}
				}
				sameAnswers(t, q, w)
				if e := sameGrant(t, q, w, job, 41, h); e != api.OK {
					t.Fatalf("%+v: Grant(%d, 41, h): %v", l, job, e)
				}
				sameAnswers(t, q, w)
			}
		}
	}
}

func TestP11_3Holders(t *testing.T) {
	for node := -2; node <= 12; node++ {
		for _, life := range []int{math.MinInt, -1, 0, 1, 2, top - 1, top, top + 1, math.MaxInt} {
			q, w := made(t, 1)
			sameSubmit(t, q, w)
			a := api.Addr{Node: node, Life: life}
			want := api.ErrArg
			if node >= 2 && node <= 9 && life >= 1 && life <= top {
				want = api.OK
			}
			if e := sameGrant(t, q, w, 1, 1, a); e != want {
				t.Errorf("Grant to %v: %v, not %v", a, e, want)
			}
			sameAnswers(t, q, w)
		}
	}
}

// One holder may have many jobs; that is not the queue's matter.
func TestP11_3OneHolderOfMany(t *testing.T) {
	q, w := made(t, 1)
	for job := 1; job <= 8; job++ {
		sameSubmit(t, q, w)
		if e := sameGrant(t, q, w, job, job, h); e != api.OK {
			t.Errorf("Grant(%d): %v", job, e)
		}
	}
	sameAnswers(t, q, w)
}

// Any Queued job may be granted, not the Head alone.
func TestP11_3NotTheHeadAlone(t *testing.T) {
	q, w := made(t, 1)
	for range 8 {
		sameSubmit(t, q, w)
	}
	for i, job := range []int{5, 8, 2, 1, 3, 7, 6, 4} {
		if e := sameGrant(t, q, w, job, 10+i, h); e != api.OK {
			t.Errorf("Grant(%d): %v", job, e)
		}
		sameAnswers(t, q, w)
	}
}

func TestR2GrantOrderOfErrors(t *testing.T) {
	l := []api.Row{rowOf(1, api.Queued, 2, 4), rowOf(2, api.Held, 2, 5), rowOf(3, api.Lost, 2, 6), rowOf(4, api.Recorded, 2, 7)}
	for _, job := range []int{0, 1, 2, 3, 4, 5} {
		for _, badge := range []int{-1, 0, 4, 5, 6, 7, 8, top, top + 1} {
			for _, holder := range someHolders {
				want := api.OK
				if !goodHolder(holder) {
					want = api.ErrArg
				}
				if badge <= 7 || badge > top {
					want = api.ErrQueueBadge
				}
				if job >= 2 && job <= 4 {
					want = api.ErrQueueState
				}
				if job == 0 || job == 5 {
					want = api.ErrQueueJob
				}
				q, w := loaded(t, 2, l), retold(2, l)
				if e := sameGrant(t, q, w, job, badge, holder); e != want {
					t.Fatalf("Grant(%d, %d, %v): %v, not %v", job, badge, holder, e, want)
				}
				sameAnswers(t, q, w)
			}
		}
	}
}

func TestP11_4ExpireEveryAttempt(t *testing.T) {
	for most := 1; most <= 8; most++ {
		q, w := made(t, most)
		sameSubmit(t, q, w)
		sameSubmit(t, q, w)
		for k := 1; k <= most; k++ {
			if e := sameGrant(t, q, w, 1, 3*k, h); e != api.OK {
				t.Fatalf("the attempt %d of %d: %v", k, most, e)
			}
			if n, e := q.Expire(3 * k); n != 1 || e != api.OK {
				t.Fatalf("Expire: %d, %v", n, e)
			}
			w.expire(3 * k)
			want := api.Row{Job: 1, Status: api.Queued, Attempts: k, Badge: 3 * k}
			if k == most {
				want.Status = api.Lost
			}
			if r, _ := q.Row(1); r != want {
				t.Fatalf("behind the attempt %d of %d: %+v", k, most, r)
			}
			sameAnswers(t, q, w)
		}
		if e := q.Grant(1, 100, h); e != api.ErrQueueState {
			t.Errorf("Grant of a lost job: %v", e)
		}
	}
}

func TestP11_4NoRowIsHeldUnderIt(t *testing.T) {
	l := []api.Row{rowOf(1, api.Queued, 2, 4), rowOf(2, api.Held, 2, 5), rowOf(3, api.Lost, 2, 6), rowOf(4, api.Recorded, 2, 7), {Job: 5, Status: 1}}
	q, w := loaded(t, 2, l), retold(2, l)
	for _, badge := range []int{math.MinInt, -5, -1, 0, 1, 2, 3, 4, 6, 7, 8, top, top + 1, 1<<32 + 5, math.MaxInt} {
		if n, e := q.Expire(badge); n != 0 || e != api.ErrQueueBadge {
			t.Errorf("Expire(%d): %d, %v", badge, n, e)
		}
		for _, x := range someResults {
			if n, e := q.Settle(badge, x); n != 0 || e != api.ErrQueueBadge {
				t.Errorf("Settle(%d, %v): %d, %v", badge, x, n, e)
			}
		}
		sameAnswers(t, q, w)
	}
}

// A badge of an attempt ahead of the last one is nobody's any more.
func TestP11_4OldBadge(t *testing.T) {
	q, w := made(t, 3)
	sameSubmit(t, q, w)
	sameGrant(t, q, w, 1, 4, h)
	sameExpire(t, q, w, 4)
	sameGrant(t, q, w, 1, 6, h)
	if n, e := q.Expire(4); n != 0 || e != api.ErrQueueBadge {
		t.Errorf("Expire(4): %d, %v", n, e)
	}
	if n, e := q.Settle(4, api.Result{}); n != 0 || e != api.ErrQueueBadge {
		t.Errorf("Settle(4): %d, %v", n, e)
	}
	if r, ok := q.Find(4); ok || r != (api.Row{}) {
		t.Errorf("Find(4): %+v", r)
	}
	sameAnswers(t, q, w)
}

func TestP11_4SettleEveryResult(t *testing.T) {
	for _, attempts := range []int{1, 2} {
		for code := -2; code <= 9; code++ {
			for _, bits := range []uint64{0, 1, 0x7ff8000000000001, 1 << 63, math.MaxUint64} {
				l := []api.Row{rowOf(1, api.Held, 2, 4), rowOf(2, api.Held, 2, 3)}
				l[0].Attempts = attempts
				q, w := loaded(t, 2, l), retold(2, l)
				x := api.Result{Code: code, Bits: bits}
				n, e := q.Settle(4, x)
				if code >= 0 && code <= 7 && (code == 0 || bits == 0) {
					if r, _ := q.Row(1); n != 1 || e != api.OK || r != (api.Row{Job: 1, Status: api.Recorded, Attempts: attempts, Badge: 4, Result: x}) {
						t.Errorf("Settle(4, %v): %d, %v, %+v", x, n, e, r)
					}
				} else if n != 0 || e != api.ErrArg {
					t.Errorf("Settle(4, %v): %d, %v", x, n, e)
				}
				w.settle(4, x)
				sameAnswers(t, q, w)
			}
		}
	}
}

func TestP11_4EveryPlace(t *testing.T) {
	var l []api.Row
	for job := 1; job <= 8; job++ {
		l = append(l, rowOf(job, api.Held, 1+job%2, 30-job))
		l[job-1].Attempts = 1
	}
	for job := 1; job <= 8; job++ {
		q, w := loaded(t, 2, l), retold(2, l)
		if n, e := q.Expire(30 - job); n != job || e != api.OK {
			t.Errorf("Expire(%d): %d, %v", 30-job, n, e)
		}
		w.expire(30 - job)
		sameAnswers(t, q, w)
		q, w = loaded(t, 2, l), retold(2, l)
		if n, e := q.Settle(30-job, api.Result{Code: 7}); n != job || e != api.OK {
			t.Errorf("Settle(%d): %d, %v", 30-job, n, e)
		}
		w.settle(30-job, api.Result{Code: 7})
		sameAnswers(t, q, w)
	}
}

func TestP11_5NoSuchRow(t *testing.T) {
	l := []api.Row{rowOf(1, api.Queued, 2, 4), rowOf(2, api.Held, 2, 5), {Job: 3, Status: 1}}
	q := loaded(t, 2, l)
	for _, k := range []int{math.MinInt, -top, -4, -1, 0, 6, 8, 9, top, 1<<32 + 1, math.MaxInt} {
		if r, ok := q.Row(k); ok || r != (api.Row{}) {
			t.Errorf("Row(%d): %+v, %v", k, r, ok)
		}
		if r, ok := q.Find(k); ok || r != (api.Row{}) {
			t.Errorf("Find(%d): %+v, %v", k, r, ok)
		}
	}
}

func TestP11_5FindOfEveryStatus(t *testing.T) {
	l := []api.Row{rowOf(1, api.Lost, 2, 9), rowOf(2, api.Held, 2, 5), rowOf(3, api.Recorded, 2, top), rowOf(4, api.Queued, 2, 1)}
	q := loaded(t, 2, l)
	for _, r := range l {
		if got, ok := q.Find(r.Badge); !ok || got != r {
			t.Errorf("Find(%d): %+v, %v", r.Badge, got, ok)
		}
	}
}

func TestR4RowsAreNewMemory(t *testing.T) {
	l := []api.Row{rowOf(1, api.Held, 3, 4), rowOf(2, api.Queued, 3, 5)}
	q, w := loaded(t, 3, l), retold(3, l)
	sameSubmit(t, q, w) // a list of rows that has grown has spare room
	a, b := q.Rows(), q.Rows()
	kept := slices.Clone(b)
	for _, x := range [][]api.Row{a, a[:cap(a)]} {
		for i := range x {
			x[i] = api.Row{Job: 99, Status: 4, Badge: 98}
		}
	}
	_ = append(a, api.Row{Job: 97})
	sameAnswers(t, q, w)
	sameSubmit(t, q, w)
	sameAnswers(t, q, w)
	sameExpire(t, q, w, 4)
	sameGrant(t, q, w, 2, 8, h)
	if !slices.Equal(b, kept) {
		t.Errorf("an answer was changed: %+v", b)
	}
}

func TestP11_5CloneR7(t *testing.T) {
	for jobs := range 9 {
		q, w := made(t, 2)
		for job := 1; job <= jobs; job++ {
			sameSubmit(t, q, w)
			sameGrant(t, q, w, job, job, h)
		}
		c, v := q.Clone(), w.clone()
		if c == nil || c == q {
			t.Fatalf("Clone: %p of %p", c, q)
		}
		goOn(t, c, v, 1)
		sameAnswers(t, q, w)
		goOn(t, q, w, 2)
		sameAnswers(t, c, v)
		sameAnswers(t, q, w)
	}
}
