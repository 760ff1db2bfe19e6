package prog

import (
	"strings"

	"gaffer/api"
	"gaffer/pack"
)

// mostWhole: no op, register or place that may be is above it. What is between its own bound and this one, Check tells.
const mostWhole = api.MaxCode

// Pack: its bytes.
func Pack(p api.Program) (string, api.Errno) {
	if e, _ := Check(p); e != api.OK {
		return "", e
	}
	var b strings.Builder
	b.WriteString(pack.Num(uint64(p.Fuel)) + pack.Num(uint64(len(p.Code))))
	for _, ins := range p.Code {
		b.WriteString(insBytes(ins))
	}
	return b.String(), api.OK
}

func insBytes(ins api.Ins) string {
	s, _ := shapeOf(ins.Op)
	b := pack.Num(uint64(ins.Op))
	for _, letter := range s.fields {
		if letter == 'K' {
			b += pack.Bits(ins.K)
		} else {
			b += pack.Num(get(ins, letter))
		}
	}
	return b
}

// Unpack: the program of bytes.
func Unpack(b string) (api.Program, api.Errno) {
	if len(b) > api.MaxProgram {
		return api.Program{}, api.ErrProgLong
	}
	r := pack.Read(b)
	p := api.Program{Fuel: int(r.Num(api.MaxFuel))}
	for range r.List(api.MaxCode) {
		p.Code = append(p.Code, readIns(r))
	}
	if e, _ := r.End(); e != api.OK {
		return api.Program{}, api.ErrProgForm
	}
	if e, _ := Check(p); e != api.OK {
		return api.Program{}, api.ErrProgForm
	}
	return p, api.OK
}

// readIns: of an op that is none it reads no fields; Check refuses it.
func readIns(r *pack.Reader) api.Ins {
	ins := api.Ins{Op: int(r.Num(mostWhole))}
	s, _ := shapeOf(ins.Op)
	for _, letter := range s.fields {
		if letter == 'K' {
			ins.K = r.Bits()
		} else {
			set(&ins, letter, r.Num(mostWhole))
		}
	}
	return ins
}
