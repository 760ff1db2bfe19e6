package state

import (
	"gaffer/api"
	"gaffer/pack"
)

// writer lays what may be: no number in it is below 0.
type writer struct {
	bytes []byte
}

func (w *writer) lay(form string) { w.bytes = append(w.bytes, form...) }

func (w *writer) numbers(l ...int) {
	for _, n := range l {
		w.lay(pack.Num(uint64(n)))
	}
}

func (w *writer) job(p api.Place) {
	r := p.Row
	w.numbers(r.Status, r.Attempts, r.Badge, r.Holder.Node, r.Holder.Life, r.Result.Code)
	w.lay(pack.Bits(r.Result.Bits))
	w.lay(pack.Text(p.Program))
	w.numbers(len(p.Log))
	for _, s := range p.Log {
		w.lay(pack.Text(s))
	}
}

// lay is a view as bytes.
func lay(v api.View) string {
	var w writer
	w.numbers(v.Reserved, len(v.Jobs))
	for _, p := range v.Jobs {
		w.job(p)
	}
	return string(w.bytes)
}

// reader reads on behind a fault, and finds noughts there: one look at the end is enough.
type reader struct {
	*pack.Reader
}

// number has the bound of the widest of them; whether it may stand where it is, keep asks.
func (r reader) number() int { return int(r.Num(api.MaxNumber)) }

func (r reader) row(job int) api.Row {
	row := api.Row{Job: job, Status: r.number(), Attempts: r.number(), Badge: r.number()}
	row.Holder = api.Addr{Node: r.number(), Life: r.number()}
	row.Result = api.Result{Code: r.number(), Bits: r.Bits()}
	return row
}

func (r reader) job(job int) api.Place {
	p := api.Place{Row: r.row(job), Program: r.Text(api.MaxProgram)}
	for range r.List(api.MaxChunks) {
		p.Log = append(p.Log, r.Text(api.MaxText))
	}
	return p
}

// read is the view whose bytes these are: whether they are one's, not whether it may be.
func read(s string) (api.View, bool) {
	r := reader{pack.Read(s)}
	v := api.View{Reserved: r.number()}
	for i := range r.List(api.MaxJobs) {
		v.Jobs = append(v.Jobs, r.job(i+1))
	}
	e, _ := r.End()
	return v, e == api.OK
}
