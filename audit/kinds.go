package audit

import (
	"slices"

	"gaffer/api"
)

// rules are those that an event breaks, by their numbers.
type rules [api.RuleKeep + 1]bool

// kind is what holds of the events of one kind: whether they name a job and an index, which rules an event breaks, and what is known behind it.
type kind struct {
	job, index bool
	broken     func(h *history, v api.Event) rules
	behind     func(h *history, v api.Event)
}

// kinds are all of them, by their numbers.
func kinds() []kind {
	never := func(*history, api.Event) rules { return rules{} }
	nothing := func(*history, api.Event) {}
	return []kind{
		api.EvRefused:   {broken: never, behind: nothing},
		api.EvSubmitted: {job: true, broken: submitting, behind: submitted},
		api.EvDown:      {broken: never, behind: nothing},
		api.EvUp:        {broken: never, behind: up},
		api.EvGranted:   {job: true, broken: granting, behind: granted},
		api.EvExpired:   {job: true, broken: expiring, behind: expired},
		api.EvLost:      {job: true, broken: losing, behind: lost},
		api.EvStored:    {job: true, index: true, broken: storing, behind: stored},
		api.EvRecorded:  {job: true, broken: recording, behind: recorded},
		api.EvEmitted:   {index: true, broken: never, behind: emitted},
		api.EvWrote:     {index: true, broken: never, behind: wrote},
		api.EvEnded:     {broken: never, behind: ended},
		api.EvAdmitted:  {job: true, index: true, broken: admitting, behind: admitted},
		api.EvShown:     {job: true, broken: showing, behind: shown},
	}
}

func submitting(h *history, v api.Event) (r rules) {
	r[api.RuleKeep] = !h.isNext(v.Job)
	return r
}

func submitted(h *history, v api.Event) {
	if h.isNext(v.Job) {
		h.let(v.Job, job{status: api.Queued})
	}
}

func granting(h *history, v api.Event) (r rules) {
	r[api.RuleRise] = v.Badge <= h.greatest
	r[api.RuleHold] = !h.is(v.Job, api.Queued)
	return r
}

func granted(h *history, v api.Event) {
	if h.known(v.Job) {
		h.let(v.Job, job{status: api.Held, badge: v.Badge})
	}
	h.greatest = max(h.greatest, v.Badge)
}

func storing(h *history, v api.Event) (r rules) {
	if !h.held(v.Job, v.Badge) {
		r[api.RuleHold] = true
		return r
	}
	r[api.RulePrefix] = v.Index != len(h.jobs[v.Job-1].log) || !h.areChunks(v.Texts, v.Badge, v.Index)
	return r
}

func stored(h *history, v api.Event) {
	if h.held(v.Job, v.Badge) {
		j := &h.jobs[v.Job-1]
		j.log = append(j.log, v.Texts...)
	}
}

func expiring(h *history, v api.Event) (r rules) {
	r[api.RuleHold] = !h.held(v.Job, v.Badge)
	return r
}

func expired(h *history, v api.Event) {
	if h.held(v.Job, v.Badge) {
		h.jobs[v.Job-1].status = api.Queued
	}
}

func losing(h *history, v api.Event) (r rules) {
	r[api.RuleOnce] = h.settled(v.Job)
	r[api.RuleHold] = !h.settled(v.Job) && !h.held(v.Job, v.Badge)
	return r
}

func lost(h *history, v api.Event) {
	if h.held(v.Job, v.Badge) {
		h.jobs[v.Job-1].status = api.Lost
	}
}

func recording(h *history, v api.Event) (r rules) {
	r[api.RuleOnce] = h.settled(v.Job)
	r[api.RuleHold] = !h.settled(v.Job) && !h.held(v.Job, v.Badge)
	r[api.RuleReal] = !h.endedWith(v.Job, v.Badge, v.Result)
	r[api.RuleWhole] = h.known(v.Job) && !h.endedAt(v.Job, v.Badge, len(h.jobs[v.Job-1].log))
	return r
}

func recorded(h *history, v api.Event) {
	if h.held(v.Job, v.Badge) {
		j := &h.jobs[v.Job-1]
		j.status, j.result = api.Recorded, v.Result
	}
}

func emitted(h *history, v api.Event) { keepFirst(h.chunks, v) }

func wrote(h *history, v api.Event) { keepFirst(h.pieces, v) }

func ended(h *history, v api.Event) {
	h.results[verdict{v.Job, v.Badge, v.Result}]++
	h.counts[length{v.Job, v.Badge, v.Count}]++
}

func admitting(h *history, v api.Event) (r rules) {
	a := h.admitted[v.Job]
	next := 0
	if v.Badge == a.badge {
		next = a.pieces
	}
	r[api.RuleAdmit] = v.Badge < a.badge || v.Index != next || !h.isPiece(v.Text, v.Badge, v.Index)
	return r
}

func admitted(h *history, v api.Event) {
	if v.Badge >= h.admitted[v.Job].badge {
		h.admitted[v.Job] = artefact{v.Badge, v.Index + 1}
	}
}

func up(h *history, v api.Event) {
	if v.Who == (api.Addr{}) {
		h.showing, h.upTo = true, 0
	}
}

func showing(h *history, v api.Event) (r rules) {
	news := v.Status == api.Recorded && !h.is(v.Job, api.Recorded)
	r[api.RuleKeep] = !h.mayBeShown(v)
	r[api.RulePrefix] = !h.areChunks(v.Texts, v.Badge, 0)
	r[api.RuleReal] = news && !h.endedWith(v.Job, v.Badge, v.Result)
	r[api.RuleWhole] = news && !h.endedAt(v.Job, v.Badge, len(v.Texts))
	return r
}

func shown(h *history, v api.Event) {
	if h.known(v.Job) || h.isNext(v.Job) {
		h.let(v.Job, job{v.Status, v.Badge, v.Result, slices.Clone(v.Texts)})
		h.greatest = max(h.greatest, v.Badge)
	}
	h.upTo = v.Job
}
