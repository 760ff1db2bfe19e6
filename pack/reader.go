package pack

import (
	"strings"

	"gaffer/api"
)

// Reader reads bytes.
type Reader struct {
	bytes string
	at    int
	fault api.Errno // its place is at: a reader that has one doesn't move
}

// Read: a reader at the beginning of bytes.
func Read(b string) *Reader { return &Reader{bytes: b} }

// Num: the next number, at most so great.
func (r *Reader) Num(most uint64) uint64 {
	return face(r, func() uint64 { return r.number(most, api.ErrPackWide) })
}

// List: how many things a list has, at most so many.
func (r *Reader) List(most int) int {
	return face(r, func() int { return r.count(most) })
}

// Text: the next text, at most so long.
func (r *Reader) Text(most int) string {
	// A copy: a short text is not to hold all the bytes that it was read from.
	return face(r, func() string { return strings.Clone(r.take(r.count(most))) })
}

// Bits: the next 64 bits.
func (r *Reader) Bits() uint64 {
	return face(r, func() uint64 {
		var n uint64
		for _, b := range []byte(r.take(bitsBytes)) {
			n = n<<8 | uint64(b)
		}
		return n
	})
}

// At: where it stands.
func (r *Reader) At() int { return r.at }

// Left: how many bytes are left.
func (r *Reader) Left() int { return len(r.bytes) - r.at }

// Fault: what couldn't be read, and its place.
func (r *Reader) Fault() (api.Errno, int) {
	if r.fault == api.OK {
		return api.OK, 0
	}
	return r.fault, r.at
}

// End: the fault, or bytes that are left.
func (r *Reader) End() (api.Errno, int) {
	if r.fault == api.OK && r.Left() > 0 {
		return api.ErrPackMore, r.at
	}
	return r.Fault()
}

// Clone: another one that stands there.
func (r *Reader) Clone() *Reader {
	c := *r
	return &c
}

// face: what read answers. If it gives up, by a panic with an error's number, that is the reader's fault from then on.
func face[T any](r *Reader, read func() T) (answer T) {
	if r.fault != api.OK {
		return answer
	}
	begin := r.at
	defer func() {
		if e, gaveUp := recover().(api.Errno); gaveUp {
			r.at, r.fault = begin, e
		}
	}()
	return read()
}

// number: the next one; gives up with above, if it is above most.
func (r *Reader) number(most uint64, above api.Errno) uint64 {
	n := r.groups()
	if n > most {
		panic(above)
	}
	return n
}

// groups: the next number, however great.
func (r *Reader) groups() uint64 {
	var n uint64
	for i := range min(mostGroups, r.Left()) {
		b := r.bytes[r.at+i]
		n |= uint64(b%moreGroups) << (groupBits * i)
		if b >= moreGroups {
			continue
		}
		if i > 0 && b == 0 || i == mostGroups-1 && b > lastGroup {
			panic(api.ErrPackForm)
		}
		r.at += i + 1
		return n
	}
	if r.Left() < mostGroups {
		panic(api.ErrPackShort)
	}
	panic(api.ErrPackForm)
}

// count: the next number, of things.
func (r *Reader) count(most int) int {
	return int(r.number(uint64(max(most, 0)), api.ErrPackLong))
}

// take: the next so many bytes.
func (r *Reader) take(many int) string {
	if many > r.Left() {
		panic(api.ErrPackShort)
	}
	begin := r.at
	r.at += many
	return r.bytes[begin:r.at]
}
