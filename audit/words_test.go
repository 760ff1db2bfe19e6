package audit_test

import (
	"slices"

	"gaffer/api"
)

// words are a second telling of the chapter: what was emitted, written, ended and admitted is looked for in the events ahead themselves.
type words struct {
	past []api.Event // those ahead
	jobs []standing  // the known ones
	top  int         // the greatest badge
	upTo int         // which jobs have been shown; -1: none are being shown
}

// standing is a job as it is known.
type standing struct {
	status, badge int
	result        api.Result
	log           []string
}

func begins() *words { return &words{upTo: -1} }

func (w *words) clone() *words {
	c := *w
	c.past, c.jobs = slices.Clone(w.past), slices.Clone(w.jobs)
	return &c
}

// faults are all of a history; the events of it may be.
func faults(l []api.Event) []api.Fault {
	w := begins()
	var out []api.Fault
	for at, v := range l {
		for _, rule := range w.takes(v) {
			out = append(out, api.Fault{Rule: rule, At: at})
		}
	}
	return out
}

// refusal is the error of a history.
func refusal(l []api.Event) api.Errno {
	if len(l) > 65536 {
		return 210
	}
	for _, v := range l {
		ofJob := slices.Contains([]int{2, 5, 6, 7, 8, 9, 13, 14}, v.Kind)
		ofIndex := slices.Contains([]int{8, 10, 11, 13}, v.Kind)
		if v.Kind < 1 || v.Kind > 14 || ofJob && (v.Job < 1 || v.Job > 8) || ofIndex && (v.Index < 0 || v.Index > 1<<40) {
			return 211
		}
	}
	return 0
}

// text is that of the first event of such a kind with this badge and index.
func (w *words) text(kind, badge, index int) (string, bool) {
	for _, v := range w.past {
		if v.Kind == kind && v.Badge == badge && v.Index == index {
			return v.Text, true
		}
	}
	return "", false
}

func (w *words) chunks(l []string, badge, index int) bool {
	for i := range l {
		if s, is := w.text(api.EvEmitted, badge, index+i); !is || s != l[i] {
			return false
		}
	}
	return true
}

func (w *words) ended(job, badge int, is func(api.Event) bool) bool {
	return slices.ContainsFunc(w.past, func(v api.Event) bool {
		return v.Kind == api.EvEnded && v.Job == job && v.Badge == badge && is(v)
	})
}

func (w *words) real(v api.Event) bool {
	return w.ended(v.Job, v.Badge, func(end api.Event) bool { return end.Result == v.Result })
}

func (w *words) whole(v api.Event, count int) bool {
	return w.ended(v.Job, v.Badge, func(end api.Event) bool { return end.Count == count })
}

// admitted is the badge of a job's pieces, and how many came under it.
func (w *words) admitted(job int) (badge, pieces int) {
	for _, v := range w.past {
		if v.Kind == api.EvAdmitted && v.Job == job && v.Badge >= badge {
			badge, pieces = v.Badge, v.Index+1
		}
	}
	return badge, pieces
}

// takes an event in; the rules that it breaks, rising.
func (w *words) takes(v api.Event) []int {
	var out []int
	breaks := func(rule int, is bool) {
		if is {
			out = append(out, rule)
		}
	}
	if v.Kind != api.EvShown {
		breaks(api.RuleKeep, w.upTo >= 0 && w.upTo < len(w.jobs))
		w.upTo = -1
	}
	switch v.Kind {
	case api.EvUp:
		if v.Who.Node == 0 && v.Who.Life == 0 {
			w.upTo = 0
		}
	case api.EvSubmitted:
		breaks(api.RuleKeep, v.Job != len(w.jobs)+1)
		if v.Job == len(w.jobs)+1 {
			w.jobs = append(w.jobs, standing{status: api.Queued})
		}
	case api.EvAdmitted:
		breaks(api.RuleAdmit, !w.maySink(v))
	case api.EvShown:
		w.shows(v, breaks)
	default:
		w.does(v, breaks)
	}
	w.past = append(w.past, v)
	slices.Sort(out)
	return slices.Compact(out)
}

// does: what is done with a job under a badge.
func (w *words) does(v api.Event, breaks func(int, bool)) {
	j := &standing{} // one that is not known: it has no status
	if v.Job >= 1 && v.Job <= len(w.jobs) {
		j = &w.jobs[v.Job-1]
	}
	known := v.Job >= 1 && v.Job <= len(w.jobs)
	over := known && (j.status == api.Recorded || j.status == api.Lost)
	held := known && j.status == api.Held && j.badge == v.Badge
	switch v.Kind {
	case api.EvGranted:
		breaks(api.RuleRise, v.Badge <= w.top)
		breaks(api.RuleHold, !known || j.status != api.Queued)
		*j = standing{status: api.Held, badge: v.Badge}
		w.top = max(w.top, v.Badge)
	case api.EvStored:
		breaks(api.RuleHold, !held)
		breaks(api.RulePrefix, held && (v.Index != len(j.log) || !w.chunks(v.Texts, v.Badge, v.Index)))
		if held {
			j.log = slices.Concat(j.log, v.Texts)
		}
	case api.EvExpired:
		breaks(api.RuleHold, !held)
		if held {
			j.status = api.Queued
		}
	case api.EvLost:
		breaks(api.RuleOnce, over)
		breaks(api.RuleHold, !over && !held)
		if held {
			j.status = api.Lost
		}
	case api.EvRecorded:
		breaks(api.RuleOnce, over)
		breaks(api.RuleHold, !over && !held)
		breaks(api.RuleReal, !w.real(v))
		breaks(api.RuleWhole, known && !w.whole(v, len(j.log)))
		if held {
			j.status, j.result = api.Recorded, v.Result
		}
	}
}

func (w *words) maySink(v api.Event) bool {
	badge, pieces := w.admitted(v.Job)
	if v.Badge < badge || v.Badge == badge && v.Index != pieces || v.Badge > badge && v.Index != 0 {
		return false
	}
	if v.Index == 0 {
		return v.Text == ""
	}
	s, is := w.text(api.EvWrote, v.Badge, v.Index)
	return is && s == v.Text
}

func (w *words) shows(v api.Event, breaks func(int, bool)) {
	known := v.Job <= len(w.jobs)
	if v.Status == api.Recorded && !(known && w.jobs[v.Job-1].status == api.Recorded) {
		breaks(api.RuleReal, !w.real(v))
		breaks(api.RuleWhole, !w.whole(v, len(v.Texts)))
	}
	breaks(api.RulePrefix, !w.chunks(v.Texts, v.Badge, 0))
	breaks(api.RuleKeep, !w.mayShow(v))
	now := standing{v.Status, v.Badge, v.Result, slices.Clone(v.Texts)}
	if known {
		w.jobs[v.Job-1] = now
	} else if v.Job == len(w.jobs)+1 {
		w.jobs = append(w.jobs, now)
	}
	if v.Job <= len(w.jobs) {
		w.top = max(w.top, v.Badge)
	}
	if w.upTo >= 0 {
		w.upTo = v.Job
	}
}

// mayShow: the four ways in which a job may be shown.
func (w *words) mayShow(v api.Event) bool {
	if w.upTo < 0 || v.Job != w.upTo+1 || v.Job > len(w.jobs)+1 {
		return false
	}
	none := v.Result == api.Result{}
	if v.Job == len(w.jobs)+1 {
		return v.Status == api.Queued && v.Badge == 0 && none && len(v.Texts) == 0
	}
	j := w.jobs[v.Job-1]
	same := j.status == v.Status && j.badge == v.Badge && j.result == v.Result
	log := slices.Equal(j.log, v.Texts)
	more := len(v.Texts) > len(j.log) && slices.Equal(j.log, v.Texts[:len(j.log)])
	heldSo := j.status == api.Held && j.badge == v.Badge && log
	return same && (log || more && j.status == api.Held) ||
		heldSo && none && (v.Status == api.Queued || v.Status == api.Lost) ||
		heldSo && v.Status == api.Recorded ||
		j.status == api.Queued && v.Badge > w.top && v.Status == api.Held && none && len(v.Texts) == 0
}
