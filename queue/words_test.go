package queue_test

import (
	"slices"
	"testing"

	"gaffer/api"
	"gaffer/queue"
)

const top = 1 << 40

// How an attempt of a story ended.
const (
	runs = iota
	expired
	recorded
)

type attempt struct {
	badge  int
	holder api.Addr
	end    int
	result api.Result
}

// words tells a queue by stories: what happened to each job, attempt by attempt. Rows are read off them.
type words struct {
	most    int
	stories [][]attempt
}

// retold makes stories of rows: of attempts ahead of the last one just that they were is known.
func retold(most int, l []api.Row) *words {
	w := &words{most: most}
	for _, r := range l {
		story := make([]attempt, r.Attempts)
		for i := range story {
			story[i].end = expired
		}
		if r.Attempts > 0 {
			story[r.Attempts-1] = attempt{badge: r.Badge, holder: r.Holder, result: r.Result, end: []int{0, expired, runs, recorded, expired}[r.Status]}
		}
		w.stories = append(w.stories, story)
	}
	return w
}

func (w *words) clone() *words {
	c := &words{most: w.most}
	for _, s := range w.stories {
		c.stories = append(c.stories, slices.Clone(s))
	}
	return c
}

func (w *words) row(job int) (api.Row, bool) {
	if job <= 0 || job >= len(w.stories)+1 {
		return api.Row{}, false
	}
	story := w.stories[job-1]
	if len(story) == 0 {
		return api.Row{Job: job, Status: 1}, true
	}
	last := story[len(story)-1]
	r := api.Row{Job: job, Attempts: len(story), Badge: last.badge}
	switch {
	case last.end == runs:
		r.Status, r.Holder = 2, last.holder
	case last.end == recorded:
		r.Status, r.Result = 3, last.result
	case len(story) < w.most:
		r.Status = 1
	default:
		r.Status = 4
	}
	return r, true
}

func (w *words) rows() []api.Row {
	var l []api.Row
	for i := range w.stories {
		r, _ := w.row(i + 1)
		l = append(l, r)
	}
	return l
}

func (w *words) submit() (int, api.Errno) {
	if len(w.stories) == 8 {
		return 0, 110
	}
	w.stories = append(w.stories, nil)
	return len(w.stories), 0
}

func (w *words) head() int {
	for _, r := range w.rows() {
		if r.Status == 1 {
			return r.Job
		}
	}
	return 0
}

func (w *words) grant(job, badge int, holder api.Addr) api.Errno {
	r, ok := w.row(job)
	if !ok {
		return 111
	}
	if r.Status != 1 {
		return 112
	}
	if badge < 1 || badge > top {
		return 113
	}
	for _, s := range w.stories {
		if len(s) > 0 && s[len(s)-1].badge >= badge {
			return 113
		}
	}
	if !goodHolder(holder) {
		return 1
	}
	w.stories[job-1] = append(w.stories[job-1], attempt{badge: badge, holder: holder})
	return 0
}

// running: the job whose story has that badge in its last attempt, and that one runs.
func (w *words) running(badge int) int {
	for i, s := range w.stories {
		if len(s) > 0 && s[len(s)-1].end == runs && s[len(s)-1].badge == badge {
			return i + 1
		}
	}
	return 0
}

func (w *words) expire(badge int) (int, api.Errno) {
	job := w.running(badge)
	if job == 0 {
		return 0, 113
	}
	s := w.stories[job-1]
	s[len(s)-1].end = expired
	return job, 0
}

func (w *words) settle(badge int, x api.Result) (int, api.Errno) {
	job := w.running(badge)
	if job == 0 {
		return 0, 113
	}
	if !goodResult(x) {
		return 0, 1
	}
	s := w.stories[job-1]
	s[len(s)-1].end, s[len(s)-1].result = recorded, x
	return job, 0
}

func (w *words) find(badge int) (api.Row, bool) {
	for _, r := range w.rows() {
		if r.Badge == badge && badge != 0 {
			return r, true
		}
	}
	return api.Row{}, false
}

func (w *words) open() (jobs, attempts int) {
	for _, r := range w.rows() {
		if r.Status <= 2 {
			jobs++
			attempts += w.most
			attempts -= r.Attempts
		}
	}
	return jobs, attempts
}

func goodHolder(a api.Addr) bool {
	return slices.Contains([]int{2, 3, 4, 5, 6, 7, 8, 9}, a.Node) && 0 < a.Life && a.Life <= top
}

func goodResult(x api.Result) bool {
	return slices.Contains([]int{0, 1, 2, 3, 4, 5, 6, 7}, x.Code) && (x.Code == 0 || x.Bits == 0)
}

// fault goes down the chapter's words one by one: the first that rows do not keep, or nothing.
func fault(most int, l []api.Row) string {
	if len(l) > 8 {
		return "too many"
	}
	for i, r := range l {
		held, rec := r.Status == 2, r.Status == 3
		for j := range i {
			if l[j].Badge > 0 && l[j].Badge == r.Badge {
				return "two of one badge"
			}
		}
		switch {
		case r.Job != i+1:
			return "not in order"
		case r.Attempts < 0, r.Attempts > most:
			return "attempts"
		case r.Badge < 0, r.Badge > top:
			return "badge"
		case (r.Badge == 0) != (r.Attempts == 0):
			return "badge of no attempt, or none of one"
		case held && !goodHolder(r.Holder), !held && (r.Holder.Node != 0 || r.Holder.Life != 0):
			return "holder"
		case rec && !goodResult(r.Result), !rec && (r.Result.Code != 0 || r.Result.Bits != 0):
			return "result"
		case r.Status < 1, r.Status > 4:
			return "status"
		case r.Status == 1 && r.Attempts == most:
			return "queued behind the last attempt"
		case (held || rec) && r.Attempts == 0:
			return "held or recorded without an attempt"
		case r.Status == 4 && r.Attempts != most:
			return "lost too early"
		}
	}
	return ""
}

func made(t *testing.T, most int) (*queue.Queue, *words) {
	t.Helper()
	q, e := queue.New(most)
	if e != api.OK || q == nil {
		t.Fatalf("New(%d): %v, %v", most, q, e)
	}
	return q, &words{most: most}
}

func loaded(t *testing.T, most int, l []api.Row) *queue.Queue {
	t.Helper()
	q, e := queue.Load(most, l)
	if e != api.OK || q == nil {
		t.Fatalf("Load(%d, %+v): %v", most, l, e)
	}
	return q
}

// sameAnswers asks both everything that changes nothing.
func sameAnswers(t *testing.T, q *queue.Queue, w *words) {
	t.Helper()
	rows := w.rows()
	if got := q.Rows(); !slices.Equal(got, rows) {
		t.Fatalf("Rows: %+v, not %+v", got, rows)
	}
	if got := q.Head(); got != w.head() {
		t.Fatalf("%+v: Head: %d, not %d", rows, got, w.head())
	}
	jobs, attempts := q.Open()
	if j, a := w.open(); jobs != j || attempts != a {
		t.Fatalf("%+v: Open: %d, %d, not %d, %d", rows, jobs, attempts, j, a)
	}
	for job := -1; job <= 9; job++ {
		sameRow(t, q, w, job)
	}
	sameFind(t, q, w, -1)
	sameFind(t, q, w, 0)
	for _, r := range rows {
		for d := -1; d <= 1; d++ {
			sameFind(t, q, w, r.Badge+d)
		}
	}
}

func sameRow(t *testing.T, q *queue.Queue, w *words, job int) {
	t.Helper()
	got, ok := q.Row(job)
	if want, wok := w.row(job); got != want || ok != wok {
		t.Fatalf("Row(%d): %+v, %v, not %+v, %v", job, got, ok, want, wok)
	}
}

func sameFind(t *testing.T, q *queue.Queue, w *words, badge int) {
	t.Helper()
	got, ok := q.Find(badge)
	if want, wok := w.find(badge); got != want || ok != wok {
		t.Fatalf("%+v: Find(%d): %+v, %v, not %+v, %v", w.rows(), badge, got, ok, want, wok)
	}
}

// The calls that change something, done to both, held against each other.

func sameSubmit(t *testing.T, q *queue.Queue, w *words) {
	t.Helper()
	n, e := q.Submit()
	if wn, we := w.submit(); n != wn || e != we {
		t.Fatalf("Submit: %d, %v, not %d, %v", n, e, wn, we)
	}
}

func sameGrant(t *testing.T, q *queue.Queue, w *words, job, badge int, holder api.Addr) api.Errno {
	t.Helper()
	ahead := w.rows()
	e := q.Grant(job, badge, holder)
	if want := w.grant(job, badge, holder); e != want {
		t.Fatalf("%+v: Grant(%d, %d, %v): %v, not %v", ahead, job, badge, holder, e, want)
	}
	return e
}

func sameExpire(t *testing.T, q *queue.Queue, w *words, badge int) {
	t.Helper()
	ahead := w.rows()
	n, e := q.Expire(badge)
	if wn, we := w.expire(badge); n != wn || e != we {
		t.Fatalf("%+v: Expire(%d): %d, %v, not %d, %v", ahead, badge, n, e, wn, we)
	}
}

func sameSettle(t *testing.T, q *queue.Queue, w *words, badge int, x api.Result) {
	t.Helper()
	ahead := w.rows()
	n, e := q.Settle(badge, x)
	if wn, we := w.settle(badge, x); n != wn || e != we {
		t.Fatalf("%+v: Settle(%d, %v): %d, %v, not %d, %v", ahead, badge, x, n, e, wn, we)
	}
}
