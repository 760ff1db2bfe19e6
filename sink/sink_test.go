package sink_test

import (
	"math"
	"math/rand"
	"slices"
	"strings"
	"testing"

	"gaffer/api"
)

// wrong are numbers that no job, no badge and no piece has.
var wrong = []int{-1, -2, -8, -16, -17, -top, -top - 1, top + 1, top + 2, 2 * top, math.MinInt, math.MinInt + 1, math.MaxInt - 1, math.MaxInt}

func TestNumbers(t *testing.T) {
	if api.ErrSinkJob != 160 || api.ErrSinkBadge != 161 || api.ErrSinkPlace != 162 || api.ErrSinkText != 163 ||
		api.MaxJobs != 8 || api.MaxPieces != 16 || api.MaxText != 32 || api.MaxNumber != top ||
		api.EvAdmitted != 13 || api.MsgPut != 6 || api.MsgTook != 15 || api.MsgRefused != 16 || api.NodeSink != 1 {
		t.Error("numbers of api")
	}
}

// The chapter's table of examples, call by call.
func TestP16Examples(t *testing.T) {
	b := made(t)
	b.refuses(entry{0, 1, 0, ""}, api.ErrSinkJob)
	b.refuses(entry{1, 0, 0, ""}, api.ErrSinkBadge)
	b.refuses(entry{1, 5, 1, "a"}, api.ErrSinkPlace)
	b.refuses(entry{1, 5, 0, "a"}, api.ErrSinkText)
	b.puts(entry{1, 5, 0, ""}, 1, true, api.OK)
	b.puts(entry{1, 5, 1, "a"}, 2, true, api.OK)
	b.puts(entry{1, 5, 1, "x"}, 2, false, api.OK)
	b.refuses(entry{1, 5, 3, "c"}, api.ErrSinkPlace)
	if l := b.s.Artefacts(); !sameArtefacts(l, []api.Artefact{{Job: 1, Badge: 5, Pieces: []string{"a"}}}) {
		t.Errorf("Artefacts: %+v", l)
	}
	want := []api.Event{{Kind: api.EvAdmitted, Job: 1, Badge: 5}, {Kind: api.EvAdmitted, Job: 1, Badge: 5, Index: 1, Text: "a"}}
	if l := b.tell(); !sameEvents(l, want) {
		t.Errorf("Told: %+v", l)
	}
	if l := b.tell(); len(l) > 0 {
		t.Errorf("Told twice: %+v", l)
	}
	b.refuses(entry{1, 4, 0, ""}, api.ErrSinkBadge)
	b.refuses(entry{1, 7, 1, "b"}, api.ErrSinkPlace)
	b.puts(entry{1, 7, 0, ""}, 1, true, api.OK)
	if l := b.s.Artefacts(); !sameArtefacts(l, []api.Artefact{{Job: 1, Badge: 7}}) {
		t.Errorf("Artefacts: %+v", l)
	}
	for _, x := range [][2]string{{"\x06\x01\x07\x03\x01c", "\x0f\x01\x07\x01"}, {"\x06\x01\x05\x02\x01b", "\x10\x01\x05"}} {
		l := b.s.Hear(api.Addr{Node: 2, Life: 1}, x[0])
		if len(l) != 1 || l[0] != (api.Datagram{From: api.Addr{Node: 1}, To: api.Addr{Node: 2, Life: 1}, Data: x[1]}) {
			t.Errorf("Hear(%q): %+v", x[0], l)
		}
	}
	if l := b.s.Hear(api.Addr{Node: 2, Life: 1}, "\x01"); len(l) > 0 {
		t.Errorf("Hear of a Hello: %+v", l)
	}
	b.same()
}

func TestP16_1New(t *testing.T) {
	a, b := made(t), made(t)
	if len(a.s.Artefacts()) > 0 || len(a.s.Told()) > 0 {
		t.Error("a new sink has something")
	}
	a.fill(3, 9, 4)
	b.same() // sinks are no clones of each other
	b.fill(3, 2, 1)
	a.same()
	c := made(t)
	for job := 1; job <= 8; job++ {
		for index := 1; index <= 17; index++ {
			c.refuses(entry{job, 1, index, "a"}, api.ErrSinkPlace)
		}
	}
}

func TestP16_2Jobs(t *testing.T) {
	for job := -3; job <= 20; job++ {
		b := made(t)
		if job >= 1 && job <= 8 {
			b.fill(job, 1, 16)
			b.same()
			continue
		}
		b.refuses(entry{job, 1, 0, ""}, api.ErrSinkJob)
	}
	b := made(t)
	b.fill(1, 1, 1)
	for _, job := range append([]int{0, 9, 256, 257, 1 << 32, 1<<32 + 1, top}, wrong...) {
		b.refuses(entry{job, 1, 0, ""}, api.ErrSinkJob)
		b.refuses(entry{job, 2, 1, "a"}, api.ErrSinkJob)
	}
}

func TestP16_2Badges(t *testing.T) {
	for _, badge := range []int{1, 2, 3, 127, 128, 1 << 31, 1 << 32, 1<<32 + 1, top - 1, top} {
		b := made(t)
		b.fill(4, badge, 2)
		b.same()
		for _, lesser := range []int{badge - 1, badge - 2, badge / 2, 1} {
			if lesser < badge {
				b.refuses(entry{4, lesser, 0, ""}, api.ErrSinkBadge)
				b.refuses(entry{4, lesser, 3, "c"}, api.ErrSinkBadge)
			}
		}
		b.puts(entry{4, badge, 0, ""}, 3, false, api.OK)
		if badge < top {
			b.refuses(entry{4, badge + 1, 3, "c"}, api.ErrSinkPlace)
			b.fill(4, badge+1, 1)
			b.refuses(entry{4, badge, 0, ""}, api.ErrSinkBadge)
		}
	}
	b := made(t)
	for _, badge := range append([]int{0}, wrong...) {
		b.refuses(entry{1, badge, 0, ""}, api.ErrSinkBadge)
		b.refuses(entry{1, badge, 1, "a"}, api.ErrSinkBadge)
	}
	b.fill(1, 3, 1)
	for _, badge := range append([]int{0, 1, 2}, wrong...) {
		b.refuses(entry{1, badge, 0, ""}, api.ErrSinkBadge)
		b.refuses(entry{1, badge, 2, "a"}, api.ErrSinkBadge)
	}
}

// Every index at every count, up to the last piece, and numbers that no piece has.
func TestP16_2Places(t *testing.T) {
	b := made(t)
	for count := 0; count <= 17; count++ {
		for index := -3; index <= 20; index++ {
			o := b.clone()
			x := entry{2, 6, index, name(6, index)}
			switch {
			case index < 0 || index > 16 || index > count:
				o.refuses(x, api.ErrSinkPlace)
			case index < count:
				o.puts(x, count, false, api.OK)
				o.same()
			default:
				o.puts(x, count+1, true, api.OK)
				o.same()
			}
		}
		for _, index := range append([]int{18, 32, 256, 1 << 32, 1<<32 + 1, 1<<32 + count, top}, wrong...) {
			b.refuses(entry{2, 6, index, "a"}, api.ErrSinkPlace)
		}
		if count < 17 {
			b.puts(entry{2, 6, count, name(6, count)}, count+1, true, api.OK)
		}
	}
}

// The seventeenth piece is none, also of a full artefact; its badge may be passed by then.
func TestP16_2Full(t *testing.T) {
	for job := 1; job <= 8; job++ {
		b := made(t)
		b.fill(job, 3, 16)
		b.refuses(entry{job, 3, 17, "a"}, api.ErrSinkPlace)
		b.puts(entry{job, 3, 16, "x"}, 17, false, api.OK)
		b.fill(job, 4, 16)
		b.refuses(entry{job, 4, 17, ""}, api.ErrSinkPlace)
		b.same()
	}
}

// Up to 32 bytes, whichever they are; they stand as they came.
func TestP16_2Texts(t *testing.T) {
	for n := 0; n <= 40; n++ {
		for _, of := range []string{"a", "\x00", "\xff", "\n"} {
			b := made(t)
			b.fill(1, 1, 0)
			x := entry{1, 1, 1, strings.Repeat(of, n)}
			if n > 32 {
				b.refuses(x, api.ErrSinkText)
				continue
			}
			b.puts(x, 2, true, api.OK)
			b.same()
			if l := b.s.Artefacts(); l[0].Pieces[0] != x.text {
				t.Errorf("%q stands as %q", x.text, l[0].Pieces[0])
			}
		}
	}
	b := made(t)
	b.fill(1, 1, 0)
	for _, n := range []int{33, 64, 256, 257, 288, 65536, 65537, 1 << 20} {
		b.refuses(entry{1, 1, 1, long(n)}, api.ErrSinkText)
	}
	for n := range 40 { // bytes count, not runes
		o := b.clone()
		if _, _, e := o.put(entry{1, 1, 1, strings.Repeat("ä", n)}); (e == api.OK) != (n <= 16) {
			t.Errorf("Put of %d runes: %v", n, e)
		}
	}
}

// An empty text is a piece like any other; the same text twice is two of them.
func TestP16_2EmptyAndSameTexts(t *testing.T) {
	b := made(t)
	b.fill(5, 2, 0)
	for i, text := range []string{"", "", "x", "x", ""} {
		b.puts(entry{5, 2, i + 1, text}, i+2, true, api.OK)
	}
	if l := b.s.Artefacts(); !slices.Equal(l[0].Pieces, []string{"", "", "x", "x", ""}) {
		t.Errorf("Artefacts: %+v", l)
	}
	b.same()
}

// The claim is an empty text, under whatever badge it comes, and however often.
func TestP16_2ClaimHasNoText(t *testing.T) {
	b := made(t)
	for _, badge := range []int{3, 3, 5, 4, 0, -1, top, top + 1} {
		for _, n := range []int{1, 2, 31, 32, 33, 100} {
			b.refuses(entry{1, badge, 0, long(n)}, api.ErrSinkText)
		}
		b.refuses(entry{1, badge, 0, "\x00"}, api.ErrSinkText)
		b.put(entry{1, badge, 0, ""})
		b.same()
	}
}

// The first text that comes of a piece stays, whatever comes behind it, and however often.
func TestP16_2FirstStays(t *testing.T) {
	for pieces := 1; pieces <= 16; pieces++ {
		b := made(t)
		b.fill(1, 4, pieces)
		b.tell()
		for index := 1; index <= pieces; index++ {
			for _, text := range []string{"second", "", name(4, index), long(32)} {
				b.puts(entry{1, 4, index, text}, pieces+1, false, api.OK)
				b.same()
			}
		}
		if len(b.tell()) > 0 {
			t.Error("something was told")
		}
	}
}

// A claim of a greater badge begins anew, wherever the artefact stood; its pieces are the new ones alone.
func TestP16_2ClaimBeginsAnew(t *testing.T) {
	for before := 0; before <= 16; before++ {
		for behind := 0; behind <= 16; behind++ {
			b := made(t)
			b.fill(1, 3, before)
			b.fill(1, 4, behind)
			b.same()
			if l := b.s.Artefacts(); len(l) != 1 || l[0].Badge != 4 || len(l[0].Pieces) != behind {
				t.Fatalf("%d, then %d pieces: %+v", before, behind, l)
			}
		}
	}
}

// Pieces of a greater badge wait for its claim: what is there stays till then.
func TestP16_2NoPieceWithoutClaim(t *testing.T) {
	for before := 0; before <= 16; before++ {
		b := made(t)
		b.fill(1, 3, before)
		for index := 1; index <= 18; index++ {
			b.refuses(entry{1, 4, index, name(4, index)}, api.ErrSinkPlace)
		}
		b.refuses(entry{1, 4, -1, ""}, api.ErrSinkPlace)
	}
}

// R2: of several errors the first that the promise names: the job, the text, the badge, the place.
func TestP16_2Order(t *testing.T) {
	b := made(t)
	b.fill(1, 5, 2)
	for _, job := range append([]int{1, 2, 0, 9}, wrong...) {
		for _, badge := range append([]int{5, 6, 4, 0}, wrong...) {
			for _, index := range append([]int{0, 1, 2, 3, 4, 16, 17}, wrong...) {
				for _, text := range []string{"", "a", long(32), long(33)} {
					x := entry{job, badge, index, text}
					o := b.clone()
					_, is, e := o.put(x)
					var want api.Errno
					switch {
					case job != 1 && job != 2:
						want = api.ErrSinkJob
					case text == long(33) || index == 0 && text != "":
						want = api.ErrSinkText
					case badge != 6 && badge != 5 && (badge != 4 || job == 1):
						want = api.ErrSinkBadge
					case index != 0 && (job != 1 || badge != 5 || index < 0 || index > 3):
						want = api.ErrSinkPlace
					}
					if e != want || is && e != api.OK {
						t.Fatalf("Put(%+v): %v, not %v", x, e, want)
					}
					o.same()
				}
			}
		}
	}
	b.same()
}

// R2: what is refused changes nothing that a later call could tell.
func TestR2Refused(t *testing.T) {
	for seed := range int64(60) {
		rnd := rand.New(rand.NewSource(seed))
		b, o := made(t), made(t)
		for range 200 {
			x := anyEntry(rnd, b.w)
			if _, _, e := b.clone().put(x); e == api.OK {
				o.put(x)
			}
			b.put(x)
			if !sameArtefacts(b.s.Artefacts(), o.s.Artefacts()) {
				t.Fatalf("%+v, not %+v", b.s.Artefacts(), o.s.Artefacts())
			}
		}
		if !sameEvents(b.tell(), o.tell()) {
			t.Fatal("what was told is not the same")
		}
	}
}

// anyEntry is mostly one of which something may come, now and then one that may not be.
func anyEntry(rnd *rand.Rand, w *words) entry {
	job := 1 + rnd.Intn(3)
	if rnd.Intn(6) == 0 {
		job = 1 + rnd.Intn(8)
	}
	badge := max(w.badge(job), 1)
	index := len(w.under(job, badge))
	switch rnd.Intn(12) {
	case 0:
		badge += 1 + rnd.Intn(3)
		index = 0
	case 1:
		badge += rnd.Intn(3)
		index = rnd.Intn(4)
	case 2:
		badge -= rnd.Intn(3)
		index = rnd.Intn(3)
	case 3, 4:
		index = rnd.Intn(20) - 1
	}
	text := long(rnd.Intn(6))
	if index == 0 && rnd.Intn(12) > 0 {
		text = ""
	}
	switch rnd.Intn(30) {
	case 0:
		job = append([]int{0, 9}, wrong...)[rnd.Intn(2+len(wrong))]
	case 1:
		badge = append([]int{0, top}, wrong...)[rnd.Intn(2+len(wrong))]
		if badge == top && rnd.Intn(4) > 0 { // behind that one there is no other
			badge = top + 1
		}
	case 2:
		index = wrong[rnd.Intn(len(wrong))]
	case 3:
		text = long(31 + rnd.Intn(4))
	}
	return entry{job, badge, index, text}
}

// All of them, by their jobs, in whatever order they were claimed.
func TestP16_4ArtefactsByJobs(t *testing.T) {
	for seed := range int64(300) {
		rnd := rand.New(rand.NewSource(seed))
		b := made(t)
		jobs := rnd.Perm(8)[:rnd.Intn(9)]
		for i, job := range jobs {
			b.fill(job+1, 1+rnd.Intn(20), rnd.Intn(5))
			l := b.s.Artefacts()
			if len(l) != i+1 || !slices.IsSortedFunc(l, func(a, b api.Artefact) int { return a.Job - b.Job }) {
				t.Fatalf("Artefacts: %+v", l)
			}
		}
		for range 5 { // a map's order is not to be seen
			b.same()
		}
	}
}

// Each piece that was admitted, once, in the order in which they came, whatever the jobs; other puts aren't told.
func TestP16_4Told(t *testing.T) {
	for seed := range int64(60) {
		rnd := rand.New(rand.NewSource(seed))
		b := made(t)
		n := 0
		for range 200 {
			x := anyEntry(rnd, b.w)
			_, is, _ := b.put(x)
			if is {
				n++
			}
			if rnd.Intn(8) > 0 {
				continue
			}
			if got := len(b.tell()); got != n {
				t.Fatalf("%d were told, not %d", got, n)
			}
			n = 0
			if len(b.tell()) > 0 {
				t.Fatal("something was told twice")
			}
			b.same()
		}
	}
}

// What has been taken over by another badge is told as it came, and a whole artefact's pieces with their claim.
func TestP16_4ToldBehindAClaim(t *testing.T) {
	b := made(t)
	b.fill(2, 3, 16)
	b.fill(1, 9, 2)
	b.fill(2, 4, 1)
	l := b.tell()
	if len(l) != 17+3+2 || l[16].Index != 16 || l[16].Text != "3/16" || l[17].Job != 1 || l[20].Badge != 4 || l[20].Index != 0 || l[21].Text != "4/1" {
		t.Errorf("Told: %+v", l)
	}
}

// To ask Told changes nothing else, nor do the other questions.
func TestP16_4Questions(t *testing.T) {
	for seed := range int64(40) {
		rnd := rand.New(rand.NewSource(seed))
		b := made(t)
		for range 80 {
			b.put(anyEntry(rnd, b.w))
			if rnd.Intn(3) == 0 {
				b.tell()
			}
			for range 3 {
				b.same()
				b.s.Clone().Put(1, top, 0, "")
			}
		}
	}
}

// What is answered is new memory, spare room too: whatever is written there, nothing else changes.
func TestR4Answers(t *testing.T) {
	for seed := range int64(60) {
		rnd := rand.New(rand.NewSource(seed))
		b := made(t)
		for range 120 {
			b.put(anyEntry(rnd, b.w))
			first, second := b.s.Artefacts(), b.s.Artefacts()
			for i := range first {
				spoil(first[i].Pieces, "spoilt")
				if !sameArtefacts(first[i+1:], second[i+1:]) || !sameArtefacts(second, b.w.artefacts()) {
					t.Fatalf("%+v, %+v", first, second)
				}
			}
			spoil(first, api.Artefact{Job: 7, Badge: 7, Pieces: []string{"spoilt"}})
			b.same()
			if rnd.Intn(5) > 0 {
				continue
			}
			o := b.clone()
			told := o.tell()
			spoil(told, api.Event{Kind: 99, Texts: []string{"spoilt"}})
			b.same()
			o.fill(8, o.w.badge(8)+1, 3)
			o.same()
			spoil(told, api.Event{Kind: 98})
			o.same()
		}
	}
}

// What was told, or shown, stays as it was, whatever is put behind it.
func TestR4AnswersStay(t *testing.T) {
	type kept struct {
		shown, shownThen []api.Artefact
		told, toldThen   []api.Event
	}
	for seed := range int64(30) {
		rnd := rand.New(rand.NewSource(seed))
		b := made(t)
		var all []kept
		for range 150 {
			b.put(anyEntry(rnd, b.w))
			if rnd.Intn(3) == 0 {
				k := kept{shown: b.s.Artefacts(), shownThen: b.w.artefacts(), toldThen: b.w.clone().tell()}
				k.told = b.tell()
				all = append(all, k)
			}
		}
		for _, k := range all {
			if !sameArtefacts(k.shown, k.shownThen) || !sameEvents(k.told, k.toldThen) {
				t.Fatalf("%+v became %+v, %+v became %+v", k.shownThen, k.shown, k.toldThen, k.told)
			}
		}
	}
}

// spoil writes over a list and the room behind it.
func spoil[T any](l []T, x T) {
	l = l[:cap(l)]
	for i := range l {
		l[i] = x
	}
}

// Of one piece on, a clone and its object go apart: neither sees what came at the other.
func TestR7Apart(t *testing.T) {
	for pieces := 0; pieces <= 16; pieces++ {
		for _, told := range []bool{false, true} {
			b := made(t)
			b.fill(1, 3, pieces)
			if told {
				b.tell()
			}
			a := b.clone()
			c := a.clone()
			a.put(entry{1, 3, pieces + 1, "of the one"})
			c.same()
			c.put(entry{1, 3, pieces + 1, "of the other"})
			a.same()
			b.put(entry{1, 4, 0, ""})
			b.fill(2, 1, 2)
			a.same()
			c.same()
			a.tell()
			c.same()
			b.same()
			c.tell()
			b.tell()
		}
	}
}

// Clones of clones that walk apart.
func TestR7WalkApart(t *testing.T) {
	from := api.Addr{Node: 2, Life: 1}
	for seed := range int64(80) {
		rnd := rand.New(rand.NewSource(seed))
		all := []both{made(t)}
		for range 250 {
			b := all[rnd.Intn(len(all))]
			if rnd.Intn(12) == 0 && len(all) < 8 {
				all = append(all, b.clone())
			}
			x := anyEntry(rnd, b.w)
			switch k := rnd.Intn(10); {
			case k == 0:
				b.tell()
			case k < 5 && mayBeSaid(x):
				b.hear(from, x)
			default:
				b.put(x)
			}
		}
		for _, b := range all {
			b.same()
			b.tell()
			b.fill(8, b.w.badge(8)+1, 16)
			b.same()
		}
	}
}
