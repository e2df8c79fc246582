package step_test

import (
	"bytes"
	"iter"
	"math"
	"slices"
	"testing"
	"unicode/utf8"

	"galley/api"
	"galley/step"
)

// spot is a step and the place at which it begins.
type spot struct {
	place int
	step  api.Step
}

func whole(r rune, width int) api.Step { return api.Step{Rune: r, Width: width, Whole: true} }

var bad = api.Step{Rune: 0xFFFD, Width: 1}

// encoding tells by the library alone whether the bytes are just one rune's encoding.
func encoding(b []byte) bool { return len(b) > 0 && utf8.Valid(b) && utf8.RuneCount(b) == 1 }

// isInside is the document's word: an encoding begins one, two or three bytes ahead of the place and ends behind it.
func isInside(b []byte, p int) bool {
	for lo := max(p-3, 0); lo < p; lo++ {
		for hi := p + 1; hi <= min(lo+4, len(b)); hi++ {
			if encoding(b[lo:hi]) {
				return true
			}
		}
	}
	return false
}

// edges are all places that are not inside, by the document's word.
func edges(b []byte) []int {
	var out []int
	for p := 0; p <= len(b); p++ {
		if !isInside(b, p) {
			out = append(out, p)
		}
	}
	return out
}

// stepOf is the step of which these are all the bytes.
func stepOf(b []byte) api.Step {
	if !encoding(b) {
		return bad
	}
	r, width := utf8.DecodeRune(b)
	return whole(r, width)
}

// spots are all steps: what stands between an edge and the next one.
func spots(b []byte) []spot {
	var out []spot
	at := edges(b)
	for i := 1; i < len(at); i++ {
		out = append(out, spot{at[i-1], stepOf(b[at[i-1]:at[i]])})
	}
	return out
}

func gather(steps iter.Seq2[int, api.Step]) []spot {
	var out []spot
	for p, s := range steps {
		out = append(out, spot{p, s})
	}
	return out
}

func turned(list []spot) []spot {
	out := slices.Clone(list)
	slices.Reverse(out)
	return out
}

// edgeBytes stand beside the limits of all classes, and of what may stand second.
var edgeBytes = []byte{0x00, 0x61, 0x7F, 0x80, 0x8F, 0x90, 0x9F, 0xA0, 0xBD, 0xBF, 0xC1, 0xC2, 0xDF, 0xE0, 0xE1, 0xED, 0xEF, 0xF0, 0xF1, 0xF4, 0xF5, 0xFF}

// fewBytes are enough to make, to break off and to break a step of each width.
var fewBytes = []byte{0x61, 0x80, 0x9F, 0xC3, 0xE2, 0xF0}

// strung calls f with all strings of that length, of these bytes.
func strung(set []byte, length int, f func(b []byte)) {
	b := make([]byte, length)
	var fill func(i int)
	fill = func(i int) {
		if i == length {
			f(b)
			return
		}
		for _, x := range set {
			b[i] = x
			fill(i + 1)
		}
	}
	fill(0)
}

// samples calls f with many texts: short ones of all edge bytes, longer ones of a few bytes, and parts that are put together in pairs and threes.
func samples(f func(b []byte)) {
	for length := 0; length <= 3; length++ {
		strung(edgeBytes, length, f)
	}
	for length := 4; length <= 6; length++ {
		strung(fewBytes, length, f)
	}
	parts := []string{"a", "\u00e9", "\u20ac", "\U0001F600", "\uFFFD", "\uFFFF", "\U00010000", "\U0010FFFF", "\uD7FF", "\uE000", "\x80", "\xc3", "\xe2\x82", "\xf0\x9f\x98", "\xe0\x9f\xbf", "\xed\xa0\x80", "\xf0\x8f\xbf\xbf", "\xf4\x90\x80\x80", "\xef\xbf", "\xff", "\r\n", "\x00"}
	for _, x := range parts {
		for _, y := range parts {
			f([]byte(x + y))
			for _, z := range parts {
				f([]byte(x + y + z))
			}
		}
	}
}

var farPlaces = []int{math.MinInt, math.MinInt + 1, -4, -3, -2, -1, math.MaxInt - 3, math.MaxInt}

// places are all of the text, and numbers that are none.
func places(b []byte) []int {
	out := slices.Clone(farPlaces)
	for p := 0; p <= len(b)+4; p++ {
		out = append(out, p)
	}
	return out
}

func isPlace(b []byte, p int) bool { return p >= 0 && p <= len(b) }

// exampleSpots is the table of the document's chapter.
var exampleSpots = []struct {
	b    string
	want []spot
}{
	{"", nil},
	{"\x61\xc3\xa9", []spot{{0, whole(0x61, 1)}, {1, whole(0xE9, 2)}}},
	{"\xc3\x61", []spot{{0, bad}, {1, whole(0x61, 1)}}},
	{"\xe2\x82\xac\x82", []spot{{0, whole(0x20AC, 3)}, {3, bad}}},
	{"\xe2\x82", []spot{{0, bad}, {1, bad}}},
	{"\xef\xbf\xbd\xef", []spot{{0, whole(0xFFFD, 3)}, {3, bad}}},
	{"\xed\xa0\x80", []spot{{0, bad}, {1, bad}, {2, bad}}},
	{"\xc0\x80", []spot{{0, bad}, {1, bad}}},
	{"\xf4\x90\x80\x80", []spot{{0, bad}, {1, bad}, {2, bad}, {3, bad}}},
	{"\xf0\x9f\x98\x80\x80", []spot{{0, whole(0x1F600, 4)}, {4, bad}}},
	{"\xf0\x9f\x98\xf0\x9f\x98\x80", []spot{{0, bad}, {1, bad}, {2, bad}, {3, whole(0x1F600, 4)}}},
	// An encoding that breaks off, and goes on behind another byte.
	{"\xe2\x82\x61\xac", []spot{{0, bad}, {1, bad}, {2, whole(0x61, 1)}, {3, bad}}},
	// What may not stand second behind E0 and F0, and what just may.
	{"\xe0\x9f\xbf", []spot{{0, bad}, {1, bad}, {2, bad}}},
	{"\xe0\xa0\x80", []spot{{0, whole(0x800, 3)}}},
	{"\xf0\x8f\xbf\xbf", []spot{{0, bad}, {1, bad}, {2, bad}, {3, bad}}},
	{"\xf0\x90\x80\x80", []spot{{0, whole(0x10000, 4)}}},
	{"\xed\x9f\xbf", []spot{{0, whole(0xD7FF, 3)}}},
	{"\xf4\x8f\xbf\xbf", []spot{{0, whole(0x10FFFF, 4)}}},
	{"\xef\xbf\xbd\xef\xbf\xff", []spot{{0, whole(0xFFFD, 3)}, {3, bad}, {4, bad}, {5, bad}}},
}

func TestP2_1AllAndBackOfTheExamples(t *testing.T) {
	for _, c := range exampleSpots {
		if got := gather(step.All([]byte(c.b))); !slices.Equal(got, c.want) {
			t.Errorf("All(% x): %v, not %v", c.b, got, c.want)
		}
		if got := gather(step.Back([]byte(c.b))); !slices.Equal(got, turned(c.want)) {
			t.Errorf("Back(% x): %v, not %v", c.b, got, turned(c.want))
		}
	}
}

func TestP2_1AtAndBeforeOfTheExamples(t *testing.T) {
	b := []byte("\x61\xf0\x9f\x98\x80\x62")
	face := whole(0x1F600, 4)
	none := api.Step{}
	for _, c := range []struct {
		p           int
		at          api.Step
		atErrno     api.Errno
		before      api.Step
		beforeErrno api.Errno
		edge        bool
		floor, ceil int
		placeErrno  api.Errno
	}{
		{-1, none, api.ErrRange, none, api.ErrRange, false, 0, 0, api.ErrRange},
		{0, whole('a', 1), api.OK, none, api.ErrRange, true, 0, 0, api.OK},
		{1, face, api.OK, whole('a', 1), api.OK, true, 1, 1, api.OK},
		{2, none, api.ErrInside, none, api.ErrInside, false, 1, 5, api.OK},
		{3, none, api.ErrInside, none, api.ErrInside, false, 1, 5, api.OK},
		{4, none, api.ErrInside, none, api.ErrInside, false, 1, 5, api.OK},
		{5, whole('b', 1), api.OK, face, api.OK, true, 5, 5, api.OK},
		{6, none, api.ErrRange, whole('b', 1), api.OK, true, 6, 6, api.OK},
		{7, none, api.ErrRange, none, api.ErrRange, false, 0, 0, api.ErrRange},
	} {
		if s, e := step.At(b, c.p); s != c.at || e != c.atErrno {
			t.Errorf("At(%d): %v, %d", c.p, s, e)
		}
		if s, e := step.Before(b, c.p); s != c.before || e != c.beforeErrno {
			t.Errorf("Before(%d): %v, %d", c.p, s, e)
		}
		if step.Edge(b, c.p) != c.edge {
			t.Errorf("Edge(%d) is not %v", c.p, c.edge)
		}
		if p, e := step.Floor(b, c.p); p != c.floor || e != c.placeErrno {
			t.Errorf("Floor(%d): %d, %d", c.p, p, e)
		}
		if p, e := step.Ceil(b, c.p); p != c.ceil || e != c.placeErrno {
			t.Errorf("Ceil(%d): %d, %d", c.p, p, e)
		}
	}
}

func TestP2_1RunesAndValidOfTheExamples(t *testing.T) {
	for _, c := range []struct {
		b     string
		runes []rune
		valid bool
	}{
		{"", nil, true},
		{"\xc3\x61", []rune{0xFFFD, 0x61}, false},
		{"\xc3", []rune{0xFFFD}, false},
		{"\x61\xf0\x9f\x98\x80\x62", []rune{0x61, 0x1F600, 0x62}, true},
		{"\xef\xbf\xbd", []rune{0xFFFD}, true},
		{"\xef\xbf\xbd\xbd", []rune{0xFFFD, 0xFFFD}, false},
		{"\xed\xa0\x80", []rune{0xFFFD, 0xFFFD, 0xFFFD}, false},
		{"\x00", []rune{0}, true},
	} {
		if got := step.Runes([]byte(c.b)); !slices.Equal(got, c.runes) {
			t.Errorf("Runes(% x): %x, not %x", c.b, got, c.runes)
		}
		if got := step.Valid([]byte(c.b)); got != c.valid {
			t.Errorf("Valid(% x): %v", c.b, got)
		}
	}
}

func TestP2_1NilIsNoBytes(t *testing.T) {
	if gather(step.All(nil)) != nil || gather(step.Back(nil)) != nil || len(step.Runes(nil)) != 0 || !step.Valid(nil) || !step.Edge(nil, 0) {
		t.Error("nil does not answer as no bytes")
	}
	if p, e := step.Floor(nil, 0); p != 0 || e != api.OK {
		t.Errorf("Floor(nil, 0): %d, %d", p, e)
	}
	if p, e := step.Ceil(nil, 0); p != 0 || e != api.OK {
		t.Errorf("Ceil(nil, 0): %d, %d", p, e)
	}
	if s, e := step.At(nil, 0); s != (api.Step{}) || e != api.ErrRange {
		t.Errorf("At(nil, 0): %v, %d", s, e)
	}
	if s, e := step.Before(nil, 0); s != (api.Step{}) || e != api.ErrRange {
		t.Errorf("Before(nil, 0): %v, %d", s, e)
	}
}

// wantAt is the answer of At by the document's words.
func wantAt(b []byte, p int) (api.Step, api.Errno) {
	if p < 0 || p >= len(b) {
		return api.Step{}, api.ErrRange
	}
	for _, s := range spots(b) {
		if s.place == p {
			return s.step, api.OK
		}
	}
	return api.Step{}, api.ErrInside
}

// wantBefore is the answer of Before by the document's words.
func wantBefore(b []byte, p int) (api.Step, api.Errno) {
	if p < 1 || p > len(b) {
		return api.Step{}, api.ErrRange
	}
	for _, s := range spots(b) {
		if s.place+s.step.Width == p {
			return s.step, api.OK
		}
	}
	return api.Step{}, api.ErrInside
}

func TestP2_1PlacesOfManyTexts(t *testing.T) {
	samples(func(b []byte) {
		for _, p := range places(b) {
			want, errno := wantAt(b, p)
			if s, e := step.At(b, p); s != want || e != errno {
				t.Fatalf("At(% x, %d): %v, %d, not %v, %d", b, p, s, e, want, errno)
			}
			want, errno = wantBefore(b, p)
			if s, e := step.Before(b, p); s != want || e != errno {
				t.Fatalf("Before(% x, %d): %v, %d, not %v, %d", b, p, s, e, want, errno)
			}
			if got := step.Edge(b, p); got != (isPlace(b, p) && !isInside(b, p)) {
				t.Fatalf("Edge(% x, %d): %v", b, p, got)
			}
		}
	})
}

func TestP2_1EveryRuneAlone(t *testing.T) {
	for r := rune(0); r <= 0x10FFFF; r++ {
		if 0xD800 <= r && r <= 0xDFFF {
			continue
		}
		b := utf8.AppendRune([]byte{'<'}, r)
		want := whole(r, len(b)-1)
		at, e := step.At(b, 1)
		before, f := step.Before(b, len(b))
		if at != want || before != want || e != api.OK || f != api.OK {
			t.Fatalf("%x: At %v, Before %v", r, at, before)
		}
		if list := step.Runes(b); !step.Valid(b) || len(list) != 2 || list[1] != r {
			t.Fatalf("%x: Runes %x", r, list)
		}
	}
}

func TestP2_2StepsAreAllBytes(t *testing.T) {
	samples(func(b []byte) {
		all := gather(step.All(b))
		if want := spots(b); !slices.Equal(all, want) {
			t.Fatalf("All(% x): %v, not %v", b, all, want)
		}
		if back := gather(step.Back(b)); !slices.Equal(back, turned(all)) {
			t.Fatalf("Back(% x): %v, All: %v", b, back, all)
		}
		var ends []int
		at := 0
		for _, s := range all {
			if s.place != at {
				t.Fatalf("All(% x): a step at %d, not at %d", b, s.place, at)
			}
			ends = append(ends, at)
			at += s.step.Width
		}
		if ends = append(ends, at); at != len(b) || !slices.Equal(ends, edges(b)) {
			t.Fatalf("All(% x): the steps' places are %v, the edges %v", b, ends, edges(b))
		}
		for p := range len(b) + 1 {
			if step.Edge(b, p) != slices.Contains(ends, p) {
				t.Fatalf("Edge(% x, %d) is not what All tells", b, p)
			}
		}
	})
}

func TestP2_3EdgesHangOnThreeBytesEachWay(t *testing.T) {
	samples(func(b []byte) {
		for p := range len(b) + 1 {
			lo, hi := max(p-3, 0), min(p+3, len(b))
			if step.Edge(b[lo:hi], p-lo) != step.Edge(b, p) {
				t.Fatalf("Edge(% x, %d) hangs on more than % x", b, p, b[lo:hi])
			}
		}
	})
}

// goesOver tells whether a step goes over the place that begins ahead of lo, or ends behind hi.
func goesOver(b []byte, p, lo, hi int) bool {
	for at, s := range step.All(b) {
		end := at + s.Width
		if at < p && p < end && (at < lo || end > hi) {
			return true
		}
	}
	return false
}

func TestP2_3EdgesInLongerTexts(t *testing.T) {
	around := []string{"", "a", "\xc3", "\xe2", "\xe2\x82", "\xf0", "\xf0\x9f", "\xf0\x9f\x98", "\x80", "\x80\x80", "\x80\x80\x80", "\u20ac"}
	for length := 0; length <= 4; length++ {
		strung(fewBytes, length, func(b []byte) {
			for _, head := range around {
				for _, end := range around {
					long := slices.Concat([]byte(head), b, []byte(end))
					lo, hi := len(head), len(head)+len(b)
					for p := range len(b) + 1 {
						in := step.Edge(b, p)
						out := step.Edge(long, lo+p)
						if in && !out && !goesOver(long, lo+p, lo, hi) {
							t.Fatalf("%d is an edge of % x, and none of % x", p, b, long)
						}
						if !in && out {
							t.Fatalf("%d is inside % x, and an edge of % x", p, b, long)
						}
					}
				}
			}
		})
	}
}

func TestP2_3FarBytesDoNotMatter(t *testing.T) {
	heads := []string{"a", "\xf0", "\xf0\x9f\x98", "\x80\x80\x80"}
	strung(fewBytes, 6, func(b []byte) {
		for _, head := range heads {
			for _, end := range heads {
				long := slices.Concat([]byte(head), b, []byte(end))
				if step.Edge(long, len(head)+3) != step.Edge(b, 3) {
					t.Fatalf("the place 3 of % x is another thing in % x", b, long)
				}
			}
		}
	})
}

func TestP2_4FloorAndCeil(t *testing.T) {
	samples(func(b []byte) {
		at := edges(b)
		for _, p := range places(b) {
			lo, e := step.Floor(b, p)
			hi, f := step.Ceil(b, p)
			if !isPlace(b, p) {
				if lo != 0 || hi != 0 || e != api.ErrRange || f != api.ErrRange {
					t.Fatalf("Floor, Ceil(% x, %d): %d %d, %d %d", b, p, lo, e, hi, f)
				}
				continue
			}
			wantHi, _ := slices.BinarySearch(at, p)
			wantLo := wantHi
			if at[wantHi] != p {
				wantLo--
			}
			if lo != at[wantLo] || hi != at[wantHi] || e != api.OK || f != api.OK {
				t.Fatalf("Floor, Ceil(% x, %d): %d %d, %d %d", b, p, lo, e, hi, f)
			}
			if p-lo > 3 || hi-p > 3 || (lo == hi) != step.Edge(b, p) {
				t.Fatalf("Floor, Ceil(% x, %d): %d, %d", b, p, lo, hi)
			}
			if s, e := step.At(b, lo); lo != p && (e != api.OK || lo+s.Width != hi || hi <= p) {
				t.Fatalf("At(Floor(% x, %d)) does not go over it: %v, %d", b, p, s, e)
			}
		}
	})
}

func TestP2_5TheLanguageSaysTheSame(t *testing.T) {
	samples(func(b []byte) {
		var told, ranged []spot
		for p, s := range step.All(b) {
			told = append(told, spot{p, api.Step{Rune: s.Rune}})
		}
		for p, r := range string(b) {
			ranged = append(ranged, spot{p, api.Step{Rune: r}})
		}
		runes := step.Runes(b)
		if !slices.Equal(told, ranged) || !slices.Equal(runes, []rune(string(b))) {
			t.Fatalf("% x: All %v, Runes %x; the language %v", b, told, runes, ranged)
		}
		if step.Valid(b) != utf8.Valid(b) {
			t.Fatalf("Valid(% x): %v", b, step.Valid(b))
		}
		if step.Valid(b) && string(runes) != string(b) {
			t.Fatalf("% x: the Runes as a string are % x", b, string(runes))
		}
	})
}

func TestP2_6BytesStay(t *testing.T) {
	room := []byte("<\xe2\x82\xac\x82\xf0\x9f\x98\x80\xac>\x80")
	kept := bytes.Clone(room)
	b := room[1:9]
	for p := -1; p <= len(b)+1; p++ {
		step.At(b, p)
		step.Before(b, p)
		step.Edge(b, p)
		step.Floor(b, p)
		step.Ceil(b, p)
	}
	gather(step.All(b))
	gather(step.Back(b))
	step.Runes(b)
	step.Valid(b)
	if !bytes.Equal(room, kept) {
		t.Errorf("the bytes were % x, and are % x", kept, room)
	}
}

// Bytes that lie behind the list in the same memory are none of the text.
func TestP2_6SpareRoomIsNotRead(t *testing.T) {
	room := []byte("\xe2\x82\xac")
	b := room[:2]
	if got := gather(step.All(b)); len(got) != 2 || got[0].step != bad || got[1].step != bad {
		t.Errorf("All: %v", got)
	}
	if got := gather(step.Back(b)); len(got) != 2 || got[0].step != bad || got[1].step != bad {
		t.Errorf("Back: %v", got)
	}
	if s, e := step.At(b, 0); s != bad || e != api.OK {
		t.Errorf("At: %v, %d", s, e)
	}
	if s, e := step.Before(b, 2); s != bad || e != api.OK {
		t.Errorf("Before: %v, %d", s, e)
	}
	if step.Valid(b) || len(step.Runes(b)) != 2 || !step.Edge(b, 1) {
		t.Error("Valid, Runes, Edge")
	}
}

func TestP2_6RunesAreNewMemory(t *testing.T) {
	b := []byte("a\xc3b")
	one, two := step.Runes(b), step.Runes(b)
	one = append(one[:1], 'x', 'y')
	if !slices.Equal(two, []rune{'a', 0xFFFD, 'b'}) || string(b) != "a\xc3b" || one[1] != 'x' {
		t.Errorf("% x, %x", b, two)
	}
	if again := step.Runes(b); !slices.Equal(again, two) {
		t.Errorf("%x, then %x", two, again)
	}
}

var directions = []struct {
	name  string
	steps func([]byte) iter.Seq2[int, api.Step]
}{{"All", step.All}, {"Back", step.Back}}

func TestP2_6IteratorsTellOfTheBytesAtTheCall(t *testing.T) {
	for _, d := range directions {
		b := []byte("a\u20ac\x82\U0001F600")
		want := gather(d.steps(b))
		steps := d.steps(b)
		for round := range 3 {
			for i := range b {
				b[i] = byte('x' + round)
			}
			if got := gather(steps); !slices.Equal(got, want) {
				t.Errorf("%s, round %d: %v, not %v", d.name, round, got, want)
			}
		}
	}
}

func TestP2_6IteratorsSeeNoChangeOnTheWay(t *testing.T) {
	for _, d := range directions {
		b := []byte("a\u20ac\x82\U0001F600")
		want := gather(d.steps(b))
		var got []spot
		for p, s := range d.steps(b) {
			got = append(got, spot{p, s})
			clear(b)
		}
		if !slices.Equal(got, want) {
			t.Errorf("%s: %v, not %v", d.name, got, want)
		}
	}
}

func TestP2_1WhoStopsEarlyGetsNoMore(t *testing.T) {
	b := []byte("a\u20ac\x82\U0001F600b")
	for _, d := range directions {
		full := gather(d.steps(b))
		steps := d.steps(b)
		for stop := 1; stop <= len(full); stop++ {
			var got []spot
			steps(func(p int, s api.Step) bool {
				got = append(got, spot{p, s})
				return len(got) < stop
			})
			if !slices.Equal(got, full[:stop]) {
				t.Errorf("%s, stopped at %d: %v", d.name, stop, got)
			}
		}
		if got := gather(steps); !slices.Equal(got, full) {
			t.Errorf("%s, gone over again: %v", d.name, got)
		}
	}
}

func TestP2_1IteratorsWithinOneAnother(t *testing.T) {
	b := []byte("a\u20ac\x82")
	for _, d := range directions {
		full := gather(d.steps(b))
		steps := d.steps(b)
		outer := 0
		for range steps {
			if got := gather(steps); !slices.Equal(got, full) {
				t.Fatalf("%s: within itself %v", d.name, got)
			}
			outer++
		}
		if outer != len(full) {
			t.Errorf("%s: %d steps", d.name, outer)
		}
	}
}

func TestP2_1IteratorsAreNeverNil(t *testing.T) {
	for _, d := range directions {
		if d.steps(nil) == nil || d.steps([]byte{}) == nil || d.steps([]byte("a")) == nil {
			t.Errorf("%s is nil", d.name)
		}
	}
}
