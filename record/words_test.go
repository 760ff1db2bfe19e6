package record_test

import (
	"encoding/binary"
	"math"
	"math/rand/v2"
	"reflect"
	"slices"
	"strconv"
	"strings"
	"sync"
	"testing"

	"gaffer/api"
	"gaffer/record"
)

// The chapter's words, told a second time: its table as texts, fields by their names, bytes by another library.

const kindTable = `
1 ChReserve N|2 ChSubmit Job Program|3 ChGrant Job Badge Slot Life
4 ChLog Badge Texts|5 ChExpire Badge|6 ChSettle Badge Result`

// boundTable: the least and the greatest number, the fewest and the most bytes, the fewest and the most texts.
const boundTable = `
N 1 1099511627776|Job 1 8|Program 1 1024|Badge 1 1099511627776|Slot 0 7|Life 1 1099511627776|Texts 1 8`

const allNames = "N Job Badge Slot Life Result Program Texts"

type kind struct {
	number int
	word   string
	names  []string
}

func rows(table string) [][]string {
	var l [][]string
	for _, row := range strings.FieldsFunc(table, func(r rune) bool { return r == '|' || r == '\n' }) {
		l = append(l, strings.Fields(row))
	}
	return l
}

var allKinds = sync.OnceValue(func() []kind {
	var l []kind
	for _, row := range rows(kindTable) {
		n, _ := strconv.Atoi(row[0])
		l = append(l, kind{n, row[1], row[2:]})
	}
	return l
})

var allBounds = sync.OnceValue(func() map[string][2]int {
	l := map[string][2]int{}
	for _, row := range rows(boundTable) {
		least, _ := strconv.Atoi(row[1])
		most, _ := strconv.Atoi(row[2])
		l[row[0]] = [2]int{least, most}
	}
	return l
})

func kindOf(number int) (kind, bool) {
	i := slices.IndexFunc(allKinds(), func(k kind) bool { return k.number == number })
	if i < 0 {
		return kind{}, false
	}
	return allKinds()[i], true
}

func bounds(name string) (least, most int) {
	b, found := allBounds()[name]
	if !found {
		panic(name)
	}
	return b[0], b[1]
}

func get(c api.Change, name string) any { return reflect.ValueOf(c).FieldByName(name).Interface() }

func set(c *api.Change, name string, value any) {
	reflect.ValueOf(c).Elem().FieldByName(name).Set(reflect.ValueOf(value))
}

func isZero(c api.Change, name string) bool {
	if name == "Texts" {
		return len(c.Texts) == 0
	}
	return reflect.ValueOf(c).FieldByName(name).IsZero()
}

// same: changes that no call can tell apart.
func same(c, d api.Change) bool {
	return slices.Equal(c.Texts, d.Texts) && slices.IndexFunc(strings.Fields(allNames), func(name string) bool {
		return name != "Texts" && get(c, name) != get(d, name)
	}) < 0 && c.Kind == d.Kind
}

func sameRows(l, m []api.Change) bool { return slices.EqualFunc(l, m, same) }

// may: of a field that the kind has.
func may(c api.Change, name string) bool {
	if name == "Result" {
		return c.Result.Code == 0 || 1 <= c.Result.Code && c.Result.Code <= 7 && c.Result.Bits == 0
	}
	least, most := bounds(name)
	switch v := get(c, name).(type) {
	case int:
		return least <= v && v <= most
	case string:
		return least <= len(v) && len(v) <= most
	case []string:
		return least <= len(v) && len(v) <= most && !slices.ContainsFunc(v, func(s string) bool { return len(s) > 32 })
	}
	panic(name)
}

// modelCheck: P8.1.
func modelCheck(c api.Change) api.Errno {
	k, ok := kindOf(c.Kind)
	if !ok {
		return api.ErrRecordKind
	}
	for _, name := range strings.Fields(allNames) {
		has := slices.Contains(k.names, name)
		if has && !may(c, name) || !has && !isZero(c, name) {
			return api.ErrRecordField
		}
	}
	return api.OK
}

// modelBytes: those of a row of changes, each of one of the six kinds, whatever stands in their fields.
func modelBytes(l []api.Change) string {
	b := binary.AppendUvarint(nil, uint64(len(l)))
	addText := func(s string) { b = append(binary.AppendUvarint(b, uint64(len(s))), s...) }
	for _, c := range l {
		b = binary.AppendUvarint(b, uint64(c.Kind))
		k, _ := kindOf(c.Kind)
		for _, name := range k.names {
			switch v := get(c, name).(type) {
			case int:
				b = binary.AppendUvarint(b, uint64(v))
			case string:
				addText(v)
			case []string:
				b = binary.AppendUvarint(b, uint64(len(v)))
				for _, s := range v {
					addText(s)
				}
			case api.Result:
				b = binary.BigEndian.AppendUint64(binary.AppendUvarint(b, uint64(v.Code)), v.Bits)
			}
		}
	}
	return string(b)
}

// modelEncode: P8.2.
func modelEncode(l []api.Change) (string, api.Errno) {
	if len(l) < 1 || len(l) > 16 {
		return "", api.ErrRecordMany
	}
	if i := slices.IndexFunc(l, func(c api.Change) bool { return modelCheck(c) != api.OK }); i >= 0 {
		return "", modelCheck(l[i])
	}
	b := modelBytes(l)
	if len(b) > 2048 {
		return "", api.ErrRecordMany
	}
	return b, api.OK
}

// modelReader takes numbers in whatever form; what it can't read is -1, or noughts.
type modelReader struct{ rest []byte }

func (r *modelReader) next() int {
	n, used := binary.Uvarint(r.rest)
	if used <= 0 {
		r.rest = nil
		return -1
	}
	r.rest = r.rest[used:]
	return int(n)
}

func (r *modelReader) take(many int) []byte {
	if many < 0 || many > len(r.rest) {
		r.rest = nil
		return make([]byte, 8)
	}
	l := r.rest[:many]
	r.rest = r.rest[many:]
	return l
}

func (r *modelReader) change() api.Change {
	c := api.Change{Kind: r.next()}
	k, _ := kindOf(c.Kind)
	for _, name := range k.names {
		switch get(c, name).(type) {
		case int:
			set(&c, name, r.next())
		case string:
			set(&c, name, string(r.take(r.next())))
		case []string:
			for range max(0, min(r.next(), 99)) {
				c.Texts = append(c.Texts, string(r.take(r.next())))
			}
		case api.Result:
			c.Result.Code = r.next()
			c.Result.Bits = binary.BigEndian.Uint64(r.take(8))
		}
	}
	return c
}

// modelDecode: P8.3. It takes what it can read, and holds its bytes against those that were given.
func modelDecode(s string) ([]api.Change, api.Errno) {
	r := &modelReader{[]byte(s)}
	var l []api.Change
	for range max(0, min(r.next(), 99)) {
		l = append(l, r.change())
	}
	if b, e := modelEncode(l); e != api.OK || b != s {
		return nil, api.ErrRecordForm
	}
	return l, api.OK
}

func checkChange(t *testing.T, c api.Change) {
	t.Helper()
	if e, want := record.Check(c), modelCheck(c); e != want {
		t.Fatalf("Check(%+v) = %d, not %d", c, e, want)
	}
	checkRow(t, []api.Change{c})
}

// checkRow tells whether it may be.
func checkRow(t *testing.T, l []api.Change) bool {
	t.Helper()
	want, e := modelEncode(l)
	if b, f := record.Encode(l); b != want || f != e {
		t.Fatalf("Encode(%+v) = %x, %d, not %x, %d", l, b, f, want, e)
	}
	return e == api.OK
}

// checkBytes tells whether they are a record's.
func checkBytes(t *testing.T, s string) bool {
	t.Helper()
	want, e := modelDecode(s)
	if l, f := record.Decode(s); !sameRows(l, want) || f != e {
		t.Fatalf("Decode(%x) = %+v, %d, not %+v, %d", s, l, f, want, e)
	}
	return e == api.OK
}

func encode(t *testing.T, l []api.Change) string {
	t.Helper()
	b, e := record.Encode(l)
	if e != api.OK {
		t.Fatalf("Encode(%+v): %d", l, e)
	}
	return b
}

func source(seed uint64) *rand.Rand { return rand.New(rand.NewPCG(seed, 8)) }

func someBits() []uint64 {
	return []uint64{0, 1, 5, 1 << 63, 0x3ff0000000000000, 0x0102030405060708, 0x7ff0000000000000, 0x7ff8000000000001, 0x7ff8000000000000, 0xfff8000000000001, 1<<63 - 1, 1<<64 - 1}
}

func edgeNumbers() []int {
	l := []int{math.MinInt, math.MinInt + 1, -1 << 40, -1, math.MaxInt, math.MaxInt - 1, 1 << 32, 1<<32 + 1}
	for _, edge := range []int{0, 2, 7, 8, 16, 32, 127, 128, 1024, 1 << 40} {
		l = append(l, edge-1, edge, edge+1)
	}
	return l
}

func edgeTexts() []string {
	var l []string
	for _, size := range []int{0, 1, 2, 31, 32, 33, 127, 128, 129, 1023, 1024, 1025, 2048, 4096} {
		l = append(l, strings.Repeat("a", size), strings.Repeat("\x80", size), strings.Repeat("\xc3\xa4", size/2))
	}
	return append(l, "\x00", "\xff", "\n", "1p0", "\x00\x01\x02\xfe\xff")
}

func edgeResults() []api.Result {
	var l []api.Result
	for _, code := range edgeNumbers() {
		for _, bits := range someBits() {
			l = append(l, api.Result{Code: code, Bits: bits})
		}
	}
	for code := range 10 {
		l = append(l, api.Result{Code: code}, api.Result{Code: code, Bits: 1}, api.Result{Code: code, Bits: 1 << 63})
	}
	return l
}

// edgeLists: so many texts; and in each place one at the edge of its length, or beyond.
func edgeLists() [][]string {
	l := [][]string{nil, {}, make([]string, 0, 4), {""}, {"a", ""}, {"", "a"}}
	for many := range 20 {
		l = append(l, make([]string, many), slices.Repeat([]string{strings.Repeat("a", 32)}, many))
	}
	for many := 1; many <= 8; many++ {
		for place := range many {
			for _, size := range []int{31, 32, 33, 128, 1024, 2048} {
				texts := make([]string, many)
				texts[place] = strings.Repeat("\xff", size)
				l = append(l, texts)
			}
		}
	}
	return l
}

// edges: values of a field's type, those that may be among others.
func edges(name string) []any {
	var l []any
	switch get(api.Change{}, name).(type) {
	case int:
		l = anys(edgeNumbers())
	case string:
		l = anys(edgeTexts())
	case []string:
		l = anys(edgeLists())
	case api.Result:
		l = anys(edgeResults())
	}
	return l
}

func anys[T any](l []T) []any {
	var m []any
	for _, v := range l {
		m = append(m, v)
	}
	return m
}

func anyText(rnd *rand.Rand, least, most int) string {
	size := least + rnd.IntN(most-least+1)
	if rnd.IntN(3) == 0 {
		size = []int{least, most}[rnd.IntN(2)]
	}
	b := make([]byte, size)
	for i := range b {
		b[i] = byte(rnd.Uint32())
	}
	return string(b)
}

func anyNumber(rnd *rand.Rand, least, most int) int {
	switch rnd.IntN(4) {
	case 0:
		return []int{least, most}[rnd.IntN(2)]
	case 1:
		return min(least+rnd.IntN(300), most)
	}
	return least + rnd.IntN(most-least+1)
}

func anyResult(rnd *rand.Rand) api.Result {
	if rnd.IntN(2) == 0 {
		return api.Result{Code: 1 + rnd.IntN(7)}
	}
	if rnd.IntN(2) == 0 {
		return api.Result{Bits: someBits()[rnd.IntN(len(someBits()))]}
	}
	return api.Result{Bits: rnd.Uint64()}
}

// anyOf: a change that may be, of that kind; its program has at most so many bytes.
func anyOf(rnd *rand.Rand, k kind, program int) api.Change {
	c := api.Change{Kind: k.number}
	for _, name := range k.names {
		if name == "Result" {
			c.Result = anyResult(rnd)
			continue
		}
		least, most := bounds(name)
		switch get(c, name).(type) {
		case int:
			set(&c, name, anyNumber(rnd, least, most))
		case string:
			set(&c, name, anyText(rnd, least, min(most, program)))
		case []string:
			for range least + rnd.IntN(most-least+1) {
				c.Texts = append(c.Texts, anyText(rnd, 0, 32))
			}
		}
	}
	return c
}

func anyChange(rnd *rand.Rand, program int) api.Change {
	return anyOf(rnd, allKinds()[rnd.IntN(len(allKinds()))], program)
}

// anyRow: one that may be.
func anyRow(rnd *rand.Rand) []api.Change {
	for {
		l := make([]api.Change, 1+rnd.IntN(16))
		for i := range l {
			l[i] = anyChange(rnd, []int{1, 40, 1024}[rnd.IntN(3)])
		}
		if len(modelBytes(l)) <= 2048 {
			return l
		}
	}
}

// extremes: of a kind, the changes in which each field is the least, and each the greatest.
func extremes(k kind) [2]api.Change {
	var l [2]api.Change
	for i := range l {
		l[i].Kind = k.number
		for _, name := range k.names {
			if name == "Result" {
				l[i].Result = []api.Result{{}, {Bits: 1<<64 - 1}}[i]
				continue
			}
			least, most := bounds(name)
			bound := []int{least, most}[i]
			switch get(l[i], name).(type) {
			case int:
				set(&l[i], name, bound)
			case string:
				set(&l[i], name, strings.Repeat("z", bound))
			case []string:
				l[i].Texts = slices.Repeat([]string{strings.Repeat("z", 32*i)}, bound)
			}
		}
	}
	return l
}

// someRows: each kind's extremes alone, and so many others.
func someRows(rnd *rand.Rand, many int) [][]api.Change {
	var l [][]api.Change
	for _, k := range allKinds() {
		for _, c := range extremes(k) {
			l = append(l, []api.Change{c})
		}
	}
	for range many {
		l = append(l, anyRow(rnd))
	}
	return l
}
