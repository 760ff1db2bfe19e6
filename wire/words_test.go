package wire_test

import (
	"encoding/binary"
	"math"
	"math/rand/v2"
	"reflect"
	"slices"
	"strconv"
	"strings"
	"sync"
	"testing"

	"gaffer/api"
	"gaffer/wire"
)

// The chapter's words, told a second time: its tables as texts, fields by their names, bytes by another library.

const kindTable = `
1 MsgHello|2 MsgPoll Session Number|3 MsgBeat Session Number Badge|4 MsgDone Session Number Badge Count Result
5 MsgChunk Badge Index Text|6 MsgPut Job Badge Index Text|7 MsgWelcome Session|8 MsgStale Session Number
9 MsgOffer Session Number Job Badge Program|10 MsgNone Session Number|11 MsgAlive Session Number|12 MsgGone Session Number
13 MsgRecorded Session Number|14 MsgAck Badge Count|15 MsgTook Job Badge Count|16 MsgRefused Job Badge`

// boundTable: the least and the greatest number, or the fewest and the most bytes.
const boundTable = `
Session 1 1099511627776|Number 1 1099511627776|Badge 1 1099511627776|Job 1 8
MsgChunk.Index 0 31|MsgPut.Index 0 16|MsgDone.Count 0 32|MsgAck.Count 0 32|MsgTook.Count 0 17
Text 0 32|Program 1 1024`

const allNames = "Session Number Job Badge Index Count Result Text Program"

const oneNaN = 0x7ff8000000000001

type kind struct {
	number int
	word   string
	names  []string
}

func rows(table string) [][]string {
	var l [][]string
	for _, row := range strings.FieldsFunc(table, func(r rune) bool { return r == '|' || r == '\n' }) {
		l = append(l, strings.Fields(row))
	}
	return l
}

var allKinds = sync.OnceValue(func() []kind {
	var l []kind
	for _, row := range rows(kindTable) {
		n, _ := strconv.Atoi(row[0])
		l = append(l, kind{n, row[1], row[2:]})
	}
	return l
})

var allBounds = sync.OnceValue(func() map[string][2]int {
	l := map[string][2]int{}
	for _, row := range rows(boundTable) {
		least, _ := strconv.Atoi(row[1])
		most, _ := strconv.Atoi(row[2])
		l[row[0]] = [2]int{least, most}
	}
	return l
})

func kindOf(number int) (kind, bool) {
	i := slices.IndexFunc(allKinds(), func(k kind) bool { return k.number == number })
	if i < 0 {
		return kind{}, false
	}
	return allKinds()[i], true
}

func (k kind) has(name string) bool { return slices.Contains(k.names, name) }

func (k kind) bounds(name string) (least, most int) {
	b, found := allBounds()[name]
	if !found {
		b, found = allBounds()[k.word+"."+name]
	}
	if !found {
		panic(k.word + "." + name)
	}
	return b[0], b[1]
}

func get(m api.Msg, name string) any { return reflect.ValueOf(m).FieldByName(name).Interface() }

func set(m *api.Msg, name string, value any) {
	reflect.ValueOf(m).Elem().FieldByName(name).Set(reflect.ValueOf(value))
}

func isNaN(bits uint64) bool { return bits<<1 > 0xffe0000000000000 }

// may: of a field that the kind names.
func (k kind) may(m api.Msg, name string) bool {
	if name == "Result" {
		if m.Result.Code != 0 {
			return 1 <= m.Result.Code && m.Result.Code <= 7 && m.Result.Bits == 0
		}
		return !isNaN(m.Result.Bits) || m.Result.Bits == oneNaN
	}
	least, most := k.bounds(name)
	switch v := get(m, name).(type) {
	case int:
		return least <= v && v <= most
	case string:
		if k.word == "MsgPut" && m.Index == 0 {
			most = 0
		}
		return least <= len(v) && len(v) <= most
	}
	panic(name)
}

// modelCheck: P7.1.
func modelCheck(m api.Msg) api.Errno {
	k, ok := kindOf(m.Kind)
	if !ok {
		return api.ErrWireKind
	}
	for _, name := range strings.Fields(allNames) {
		if k.has(name) && !k.may(m, name) || !k.has(name) && !reflect.ValueOf(m).FieldByName(name).IsZero() {
			return api.ErrWireField
		}
	}
	return api.OK
}

// modelBytes: those of a message of one of the sixteen kinds, whatever stands in its fields.
func modelBytes(m api.Msg) string {
	k, _ := kindOf(m.Kind)
	b := binary.AppendUvarint(nil, uint64(m.Kind))
	for _, name := range k.names {
		switch v := get(m, name).(type) {
		case int:
			b = binary.AppendUvarint(b, uint64(v))
		case string:
			b = append(binary.AppendUvarint(b, uint64(len(v))), v...)
		case api.Result:
			b = binary.BigEndian.AppendUint64(binary.AppendUvarint(b, uint64(v.Code)), v.Bits)
		}
	}
	return string(b)
}

// modelDecode: P7.2. It takes what it can read, in whatever form, and holds its bytes against those that were given.
func modelDecode(b string) (api.Msg, api.Errno) {
	if len(b) > 2048 {
		return api.Msg{}, api.ErrWireLong
	}
	rest := []byte(b)
	next := func() int {
		n, used := binary.Uvarint(rest)
		if used <= 0 {
			rest = nil
			return -1
		}
		rest = rest[used:]
		return int(n)
	}
	take := func(many int) []byte {
		if many < 0 || many > len(rest) {
			rest = nil
			return make([]byte, 8)
		}
		l := rest[:many]
		rest = rest[many:]
		return l
	}
	m := api.Msg{Kind: next()}
	k, _ := kindOf(m.Kind)
	for _, name := range k.names {
		switch get(m, name).(type) {
		case int:
			set(&m, name, next())
		case string:
			set(&m, name, string(take(next())))
		case api.Result:
			m.Result.Code = next()
			m.Result.Bits = binary.BigEndian.Uint64(take(8))
		}
	}
	if modelCheck(m) != api.OK || modelBytes(m) != b {
		return api.Msg{}, api.ErrWireForm
	}
	return m, api.OK
}

func checkMsg(t *testing.T, m api.Msg) {
	t.Helper()
	e := modelCheck(m)
	if f := wire.Check(m); f != e {
		t.Fatalf("Check(%+v) = %d, not %d", m, f, e)
	}
	want := ""
	if e == api.OK {
		want = modelBytes(m)
	}
	if b, f := wire.Encode(m); b != want || f != e {
		t.Fatalf("Encode(%+v) = %x, %d, not %x, %d", m, b, f, want, e)
	}
}

// checkBytes tells whether they are a message's.
func checkBytes(t *testing.T, b string) bool {
	t.Helper()
	m, e := modelDecode(b)
	if n, f := wire.Decode(b); n != m || f != e {
		t.Fatalf("Decode(%x) = %+v, %d, not %+v, %d", b, n, f, m, e)
	}
	return e == api.OK
}

func encode(t *testing.T, m api.Msg) string {
	t.Helper()
	b, e := wire.Encode(m)
	if e != api.OK {
		t.Fatalf("Encode(%+v): %d", m, e)
	}
	return b
}

func source(seed uint64) *rand.Rand { return rand.New(rand.NewPCG(seed, 7)) }

// goodBits: numbers with which a result may be.
func goodBits() []uint64 {
	return []uint64{
		0, 1, 1 << 63, 0x3ff0000000000000, 0xbff8000000000000, 0x0102030405060708, 0x000fffffffffffff, 0x0010000000000000,
		0x7fefffffffffffff, 0x7ff0000000000000, 0xffefffffffffffff, 0xfff0000000000000, oneNaN,
	}
}

func otherNaNs() []uint64 {
	return []uint64{oneNaN - 1, oneNaN + 1, 0x7ff0000000000001, 0xfff0000000000001, 0xfff8000000000001, 0xfff8000000000000, 1<<63 - 1, 1<<64 - 1}
}

func edgeNumbers() []int {
	l := []int{math.MinInt, math.MinInt + 1, -1 << 40, -1, math.MaxInt, math.MaxInt - 1, 1 << 32, 1<<32 + 1}
	for _, edge := range []int{0, 2, 8, 16, 31, 32, 127, 128, 1024, 1 << 40} {
		l = append(l, edge-1, edge, edge+1)
	}
	return l
}

func edgeTexts() []string {
	var l []string
	for _, size := range []int{0, 1, 2, 31, 32, 33, 127, 128, 129, 1023, 1024, 1025, 2048, 4096} {
		l = append(l, strings.Repeat("a", size), strings.Repeat("\x80", size), strings.Repeat("\xc3\xa4", size/2))
	}
	return append(l, "\x00", "\xff", "\n", "1p0", "\x00\x01\x02\xfe\xff")
}

func edgeResults() []api.Result {
	var l []api.Result
	for _, code := range edgeNumbers() {
		for _, bits := range append(goodBits(), otherNaNs()...) {
			l = append(l, api.Result{Code: code, Bits: bits})
		}
	}
	for code := range 10 {
		l = append(l, api.Result{Code: code}, api.Result{Code: code, Bits: 1}, api.Result{Code: code, Bits: oneNaN})
	}
	return l
}

// edges: values of a field's type, those that may be among others.
func edges(name string) []any {
	var l []any
	switch get(api.Msg{}, name).(type) {
	case int:
		for _, v := range edgeNumbers() {
			l = append(l, v)
		}
	case string:
		for _, v := range edgeTexts() {
			l = append(l, v)
		}
	case api.Result:
		for _, v := range edgeResults() {
			l = append(l, v)
		}
	}
	return l
}

func anyText(rnd *rand.Rand, least, most int) string {
	size := least + rnd.IntN(most-least+1)
	if rnd.IntN(3) == 0 {
		size = []int{least, most}[rnd.IntN(2)]
	}
	b := make([]byte, size)
	for i := range b {
		b[i] = byte(rnd.Uint32())
	}
	return string(b)
}

func anyNumber(rnd *rand.Rand, least, most int) int {
	switch rnd.IntN(4) {
	case 0:
		return []int{least, most}[rnd.IntN(2)]
	case 1:
		return min(least+rnd.IntN(300), most)
	}
	return least + rnd.IntN(most-least+1)
}

func anyResult(rnd *rand.Rand) api.Result {
	if rnd.IntN(2) == 0 {
		return api.Result{Code: 1 + rnd.IntN(7)}
	}
	bits := rnd.Uint64()
	if isNaN(bits) || rnd.IntN(2) == 0 {
		bits = goodBits()[rnd.IntN(len(goodBits()))]
	}
	return api.Result{Bits: bits}
}

// anyMsg: one that may be, of that kind.
func anyMsg(rnd *rand.Rand, k kind) api.Msg {
	m := api.Msg{Kind: k.number}
	for _, name := range k.names {
		if name == "Result" {
			m.Result = anyResult(rnd)
			continue
		}
		least, most := k.bounds(name)
		switch get(m, name).(type) {
		case int:
			set(&m, name, anyNumber(rnd, least, most))
		case string:
			set(&m, name, anyText(rnd, least, most))
		}
	}
	if k.word == "MsgPut" && m.Index == 0 {
		m.Text = ""
	}
	return m
}

// extremes: of a kind, the messages in which each field is the least, and each the greatest.
func extremes(k kind) [2]api.Msg {
	var l [2]api.Msg
	for i := range l {
		l[i].Kind = k.number
		for _, name := range k.names {
			if name == "Result" {
				l[i].Result = []api.Result{{}, {Bits: 0xfff0000000000000}}[i]
				continue
			}
			least, most := k.bounds(name)
			bound := []int{least, most}[i]
			switch get(l[i], name).(type) {
			case int:
				set(&l[i], name, bound)
			case string:
				set(&l[i], name, strings.Repeat("z", bound))
			}
		}
	}
	return l
}

// someMsgs: of each kind the extremes, and so many others.
func someMsgs(rnd *rand.Rand, many int) []api.Msg {
	var l []api.Msg
	for _, k := range allKinds() {
		ends := extremes(k)
		l = append(l, ends[:]...)
		for range many {
			l = append(l, anyMsg(rnd, k))
		}
	}
	return l
}
