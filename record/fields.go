package record

import (
	"gaffer/api"
	"gaffer/pack"
)

// visitor: what is done with each kind of field, looking, laying or reading; so the chapter's table stands once, in visit.
type visitor interface {
	whole(at *int, least, most int)
	text(at *string, least, most int)
	texts(at *[]string)
	result(at *api.Result)
}

// visit goes through the fields that the kind of the change at c has, in the order of their bytes.
func visit(c *api.Change, v visitor) {
	switch c.Kind {
	case api.ChReserve:
		v.whole(&c.N, 1, api.MaxNumber)
	case api.ChSubmit:
		v.whole(&c.Job, 1, api.MaxJobs)
		v.text(&c.Program, 1, api.MaxProgram)
	case api.ChGrant:
		v.whole(&c.Job, 1, api.MaxJobs)
		visitBadge(c, v)
		v.whole(&c.Slot, 0, api.MaxRunners-1)
		v.whole(&c.Life, 1, api.MaxNumber)
	case api.ChLog:
		visitBadge(c, v)
		v.texts(&c.Texts)
	case api.ChExpire:
		visitBadge(c, v)
	case api.ChSettle:
		visitBadge(c, v)
		v.result(&c.Result)
	}
}

func visitBadge(c *api.Change, v visitor) { v.whole(&c.Badge, 1, api.MaxNumber) }

// isBlank: is there nothing beside the kind?
func isBlank(c api.Change) bool {
	return c.N == 0 && c.Job == 0 && c.Badge == 0 && c.Slot == 0 && c.Life == 0 &&
		c.Result == api.Result{} && c.Program == "" && len(c.Texts) == 0
}

func isWithin(n, least, most int) bool { return least <= n && n <= most }

// mayBits: a trap leaves no number.
func mayBits(r api.Result) bool { return r.Code == api.TrapNone || r.Bits == 0 }

// looker clears each field that it has looked at, and notes whether one was wrong.
type looker struct {
	wrong bool
}

func (l *looker) want(may bool) { l.wrong = l.wrong || !may }

func (l *looker) whole(at *int, least, most int) {
	l.want(isWithin(*at, least, most))
	*at = 0
}

func (l *looker) text(at *string, least, most int) {
	l.want(isWithin(len(*at), least, most))
	*at = ""
}

func (l *looker) texts(at *[]string) {
	l.want(isWithin(len(*at), 1, api.MaxWindow))
	for _, s := range *at {
		l.want(len(s) <= api.MaxText)
	}
	*at = nil
}

func (l *looker) result(at *api.Result) {
	l.want(isWithin(at.Code, api.TrapNone, api.TrapFail) && mayBits(*at))
	*at = api.Result{}
}

// writer lays the fields of changes that may be.
type writer struct {
	bytes []byte
}

func (w *writer) lay(form string) { w.bytes = append(w.bytes, form...) }

func (w *writer) layNumber(n int) { w.lay(pack.Num(uint64(n))) }

func (w *writer) whole(at *int, _, _ int) { w.layNumber(*at) }

func (w *writer) text(at *string, _, _ int) { w.lay(pack.Text(*at)) }

func (w *writer) texts(at *[]string) {
	w.layNumber(len(*at))
	for _, s := range *at {
		w.lay(pack.Text(s))
	}
}

func (w *writer) result(at *api.Result) {
	w.layNumber(at.Code)
	w.lay(pack.Bits(at.Bits))
}

// reader sets the fields, and gives up by a panic at the first one that can't be read or may not be.
type reader struct {
	bytes *pack.Reader
}

func (r reader) need(may bool) {
	if e, _ := r.bytes.Fault(); e != api.OK || !may {
		panic(api.ErrRecordForm)
	}
}

func (r reader) number(least, most int) int {
	n := int(r.bytes.Num(uint64(most)))
	r.need(n >= least)
	return n
}

func (r reader) whole(at *int, least, most int) { *at = r.number(least, most) }

func (r reader) text(at *string, least, most int) {
	*at = r.bytes.Text(most)
	r.need(len(*at) >= least)
}

func (r reader) texts(at *[]string) {
	l := make([]string, r.number(1, api.MaxWindow))
	for i := range l {
		r.text(&l[i], 0, api.MaxText)
	}
	*at = l
}

func (r reader) result(at *api.Result) {
	at.Code = r.number(api.TrapNone, api.TrapFail)
	at.Bits = r.bytes.Bits()
	r.need(mayBits(*at))
}
