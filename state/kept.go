package state

import (
	"slices"

	"gaffer/api"
	"gaffer/queue"
	"gaffer/record"
)

// kept is a state as the chapter's words have it: the rows are the queue's.
type kept struct {
	*queue.Queue
	reserved int
	papers   [api.MaxJobs]paper // of the job n at n - 1; of a job that is not there nothing
}

// paper is what a job has beside its row.
type paper struct {
	program string
	log     []string // never written into, another one takes its place: clones share it
}

// keep makes what such a view shows, if it may be.
func keep(attempts int, v api.View) (*kept, bool) {
	k := &kept{reserved: v.Reserved}
	var rows []api.Row
	for i, p := range v.Jobs {
		if !mayStand(p, v.Reserved) {
			return nil, false
		}
		rows = append(rows, p.Row)
		k.papers[i] = paper{p.Program, p.Log}
	}
	q, e := queue.Load(attempts, rows)
	if e != api.OK {
		return nil, false
	}
	k.Queue = q
	return k, true
}

// mayStand asks for what neither the queue nor the bytes' bounds ask for.
func mayStand(p api.Place, reserved int) bool {
	return p.Row.Badge <= reserved && p.Program != "" && (p.Row.Attempts > 0 || len(p.Log) == 0)
}

// place is a job as it is seen, in memory of its own.
func (k *kept) place(r api.Row) api.Place {
	p := k.papers[r.Job-1]
	return api.Place{Row: r, Program: p.program, Log: slices.Clone(p.log)}
}

func (k *kept) clone() *kept {
	c := *k
	c.Queue = k.Queue.Clone()
	return &c
}

// take does a change, if it may come. What refused one is not to be used any more.
func (k *kept) take(c api.Change) bool {
	return record.Check(c) == api.OK && doings()[c.Kind](k, c)
}

// doings is what changes do, by their kinds; each tells whether the change may come.
func doings() [api.ChSettle + 1]func(*kept, api.Change) bool {
	return [...]func(*kept, api.Change) bool{
		api.ChReserve: (*kept).reserve,
		api.ChSubmit:  (*kept).submit,
		api.ChGrant:   (*kept).grant,
		api.ChLog:     (*kept).lengthen,
		api.ChExpire:  (*kept).expire,
		api.ChSettle:  (*kept).settle,
	}
}

func (k *kept) reserve(c api.Change) bool {
	if c.N <= k.reserved {
		return false
	}
	k.reserved = c.N
	return true
}

func (k *kept) submit(c api.Change) bool {
	job, e := k.Submit()
	if e != api.OK || job != c.Job {
		return false
	}
	k.papers[job-1] = paper{program: c.Program}
	return true
}

func (k *kept) grant(c api.Change) bool {
	holder := api.Addr{Node: api.NodeRunner + c.Slot, Life: c.Life}
	if c.Badge > k.reserved || k.Grant(c.Job, c.Badge, holder) != api.OK {
		return false
	}
	k.papers[c.Job-1].log = nil
	return true
}

func (k *kept) lengthen(c api.Change) bool {
	r, ok := k.Find(c.Badge)
	if !ok || r.Status != api.Held {
		return false
	}
	p := &k.papers[r.Job-1]
	if len(p.log)+len(c.Texts) > api.MaxChunks {
		return false
	}
	p.log = slices.Concat(p.log, c.Texts)
	return true
}

func (k *kept) expire(c api.Change) bool {
	_, e := k.Expire(c.Badge)
	return e == api.OK
}

func (k *kept) settle(c api.Change) bool {
	_, e := k.Settle(c.Badge, c.Result)
	return e == api.OK
}
