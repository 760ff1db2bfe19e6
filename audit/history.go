package audit

import (
	"slices"

	"gaffer/api"
)

// history is what the events up to now have told.
type history struct {
	jobs     []job // the known ones, from the job 1 on
	greatest int   // badge that was granted, or shown
	chunks   map[spot]made
	pieces   map[spot]made
	results  map[verdict]int // of how many ends
	counts   map[length]int  // likewise
	admitted [api.MaxJobs + 1]artefact
	showing  bool // whether jobs are being shown
	upTo     int  // and up to which they have been
}

// job is one as it is known.
type job struct {
	status, badge int
	result        api.Result
	log           []string
}

// spot is what a text of a runner's is found by.
type spot struct {
	badge, index int
}

// made is the text that was made first in a spot.
type made struct {
	text string
}

// verdict and length are what an end is asked for by: which result it had, and how many chunks.
type verdict struct {
	job, badge int
	result     api.Result
}

type length struct {
	job, badge, count int
}

// artefact is what was admitted of a job: under which badge, and how many pieces, the claim with them.
type artefact struct {
	badge, pieces int
}

func newHistory() *history {
	return &history{
		chunks: map[spot]made{}, pieces: map[spot]made{},
		results: map[verdict]int{}, counts: map[length]int{},
	}
}

// next takes an event in; which rules it breaks.
func (h *history) next(row kind, v api.Event) rules {
	missing := v.Kind != api.EvShown && h.endShowing()
	r := row.broken(h, v)
	r[api.RuleKeep] = r[api.RuleKeep] || missing
	row.behind(h, v)
	return r
}

// endShowing tells whether jobs were being shown, and not all of them were.
func (h *history) endShowing() bool {
	missing := h.showing && h.upTo < len(h.jobs)
	h.showing = false
	return missing
}

func (h *history) known(k int) bool { return k <= len(h.jobs) }

// is tells whether a job is known, and stands so.
func (h *history) is(k, status int) bool { return h.known(k) && h.jobs[k-1].status == status }

func (h *history) settled(k int) bool { return h.is(k, api.Recorded) || h.is(k, api.Lost) }

func (h *history) held(k, badge int) bool {
	return h.is(k, api.Held) && h.jobs[k-1].badge == badge
}

// isNext tells whether a job is the one behind those that are known.
func (h *history) isNext(k int) bool { return k == len(h.jobs)+1 }

// let has a job stand so that is known, or the next one.
func (h *history) let(k int, j job) {
	if h.isNext(k) {
		h.jobs = append(h.jobs, job{})
	}
	h.jobs[k-1] = j
}

// areChunks tells whether texts are what was emitted under a badge, from an index on.
func (h *history) areChunks(texts []string, badge, index int) bool {
	for i, s := range texts {
		if c, ok := h.chunks[spot{badge, index + i}]; !ok || c.text != s {
			return false
		}
	}
	return true
}

// isPiece tells whether a text is what was written there; the claim is not written, and is empty.
func (h *history) isPiece(text string, badge, index int) bool {
	if index == 0 {
		return text == ""
	}
	p, ok := h.pieces[spot{badge, index}]
	return ok && p.text == text
}

func (h *history) endedWith(k, badge int, r api.Result) bool {
	return h.results[verdict{k, badge, r}] > 0
}

func (h *history) endedAt(k, badge, count int) bool { return h.counts[length{k, badge, count}] > 0 }

// keepFirst keeps an event's text, if none was made in its spot ahead of it.
func keepFirst(texts map[spot]made, v api.Event) {
	at := spot{v.Badge, v.Index}
	if _, ok := texts[at]; !ok {
		texts[at] = made{v.Text}
	}
}

// mayBeShown tells whether a coordinator that was started may show a job so: as it is known, or as the one record makes it that a cut may have left unsaid.
func (h *history) mayBeShown(v api.Event) bool {
	switch {
	case !h.showing || v.Job != h.upTo+1:
		return false
	case h.known(v.Job):
		j := h.jobs[v.Job-1]
		return j.shownSame(v) || j.shownBehind(v) || j.shownGranted(v, h.greatest)
	}
	return h.isNext(v.Job) && v.Status == api.Queued && v.Badge == 0 && isBare(v)
}

// shownSame: nothing but chunks may have come.
func (j job) shownSame(v api.Event) bool {
	if j.status != v.Status || j.badge != v.Badge || j.result != v.Result {
		return false
	}
	return slices.Equal(j.log, v.Texts) || j.status == api.Held && begins(j.log, v.Texts)
}

// shownBehind: its attempt may have come to its end.
func (j job) shownBehind(v api.Event) bool {
	if j.status != api.Held || j.badge != v.Badge || !slices.Equal(j.log, v.Texts) {
		return false
	}
	if v.Status == api.Recorded {
		return true
	}
	return (v.Status == api.Queued || v.Status == api.Lost) && v.Result == api.Result{}
}

// shownGranted: its next attempt may have begun, under a badge that nobody was told.
func (j job) shownGranted(v api.Event, greatest int) bool {
	return j.status == api.Queued && v.Status == api.Held && v.Badge > greatest && isBare(v)
}

// isBare tells whether a job is shown without a result and without a log.
func isBare(v api.Event) bool { return v.Result == api.Result{} && len(v.Texts) == 0 }

// begins tells whether texts are a beginning of others.
func begins(texts, of []string) bool {
	return len(texts) <= len(of) && slices.Equal(texts, of[:len(texts)])
}
