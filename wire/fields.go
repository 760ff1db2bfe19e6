package wire

import (
	"gaffer/api"
	"gaffer/num"
	"gaffer/pack"
)

// namedFields: by kinds, the letters of the fields that each names, in the order of their bytes: the chapter's table.
func namedFields() [api.MsgRefused + 1]string {
	return [api.MsgRefused + 1]string{
		api.MsgHello:    "",
		api.MsgPoll:     "SN",
		api.MsgBeat:     "SNB",
		api.MsgDone:     "SNBCR",
		api.MsgChunk:    "BIT",
		api.MsgPut:      "JBIT",
		api.MsgWelcome:  "S",
		api.MsgStale:    "SN",
		api.MsgOffer:    "SNJBP",
		api.MsgNone:     "SN",
		api.MsgAlive:    "SN",
		api.MsgGone:     "SN",
		api.MsgRecorded: "SN",
		api.MsgAck:      "BC",
		api.MsgTook:     "JBC",
		api.MsgRefused:  "JB",
	}
}

// field: what can be asked of one field of a message, and done to it.
type field struct {
	may   func() bool          // may it be as it is?
	clear func()               // makes it zero
	lay   func() string        // its bytes
	read  func(r *pack.Reader) // sets it; what it is then may still be none that may be
}

// fieldsOf: those that the kind of the message at m names, in the order of their bytes.
func fieldsOf(m *api.Msg) []field {
	letters := namedFields()[m.Kind]
	fields := make([]field, 0, len(letters))
	for _, letter := range letters {
		fields = append(fields, fieldOf(m, letter))
	}
	return fields
}

func fieldOf(m *api.Msg, letter rune) field {
	switch letter {
	case 'S':
		return wholeAt(&m.Session, 1, api.MaxNumber)
	case 'N':
		return wholeAt(&m.Number, 1, api.MaxNumber)
	case 'J':
		return wholeAt(&m.Job, 1, api.MaxJobs)
	case 'B':
		return wholeAt(&m.Badge, 1, api.MaxNumber)
	case 'I':
		return wholeAt(&m.Index, 0, lastIndex(m.Kind))
	case 'C':
		return wholeAt(&m.Count, 0, mostCount(m.Kind))
	case 'R':
		return resultAt(&m.Result)
	case 'T':
		return textAt(&m.Text, 0, api.MaxText)
	}
	return textAt(&m.Program, 1, api.MaxProgram)
}

// lastIndex: of puts there is one more than of pieces, as the claim has the index 0.
func lastIndex(kind int) int {
	if kind == api.MsgPut {
		return api.MaxPieces
	}
	return api.MaxChunks - 1
}

// mostCount: the sink counts the claim, too.
func mostCount(kind int) int {
	if kind == api.MsgTook {
		return api.MaxPieces + 1
	}
	return api.MaxChunks
}

func wholeAt(at *int, least, most int) field {
	return field{
		may:   func() bool { return least <= *at && *at <= most },
		clear: func() { *at = 0 },
		lay:   func() string { return pack.Num(uint64(*at)) },
		read:  func(r *pack.Reader) { *at = int(r.Num(uint64(most))) },
	}
}

func textAt(at *string, least, most int) field {
	return field{
		may:   func() bool { return least <= len(*at) && len(*at) <= most },
		clear: func() { *at = "" },
		lay:   func() string { return pack.Text(*at) },
		read:  func(r *pack.Reader) { *at = r.Text(most) },
	}
}

func resultAt(at *api.Result) field {
	code := wholeAt(&at.Code, api.TrapNone, api.TrapFail)
	return field{
		may:   func() bool { return code.may() && mayBits(*at) },
		clear: func() { *at = api.Result{} },
		lay:   func() string { return code.lay() + pack.Bits(at.Bits) },
		read: func(r *pack.Reader) {
			code.read(r)
			at.Bits = r.Bits()
		},
	}
}

// mayBits: a trap leaves no number, and there is one NaN only.
func mayBits(r api.Result) bool {
	if r.Code != api.TrapNone {
		return r.Bits == 0
	}
	return num.Canon(r.Bits) == r.Bits
}
