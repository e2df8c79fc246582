package units_test

import (
	"bytes"
	"fmt"
	"math"
	"slices"
	"testing"
	"unicode/utf16"
	"unicode/utf8"

	"galley/api"
	"galley/units"
)

// isRune is the document's word.
func isRune(r rune) bool { return 0 <= r && r <= 0x10FFFF && (r < 0xD800 || r > 0xDFFF) }

func isHigh(x uint16) bool { return 0xD800 <= x && x <= 0xDBFF }

func isLow(x uint16) bool { return 0xDC00 <= x && x <= 0xDFFF }

// unitsOf are a rune's units by the document's words.
func unitsOf(r rune) []uint16 {
	if r > 0xFFFF {
		return []uint16{uint16((r-0x10000)/0x400 + 0xD800), uint16((r-0x10000)%0x400 + 0xDC00)}
	}
	return []uint16{uint16(r)}
}

// part is one step of a text.
type part struct {
	bytes []byte
	rune  rune
	whole bool
}

// parts are the steps of a text, by the library alone.
func parts(b []byte) []part {
	var out []part
	for len(b) > 0 {
		r, n := utf8.DecodeRune(b)
		out = append(out, part{b[:n], r, r != utf8.RuneError || n > 1})
		b = b[n:]
	}
	return out
}

// wantTo are the units of the steps: of a bad one FFFD, or its byte unit.
func wantTo(b []byte, exact bool) []uint16 {
	var out []uint16
	for _, s := range parts(b) {
		switch {
		case s.whole:
			out = append(out, unitsOf(s.rune)...)
		case exact:
			out = append(out, 0xDC00+uint16(s.bytes[0]))
		default:
			out = append(out, 0xFFFD)
		}
	}
	return out
}

// role is what a unit is among those beside it.
type role int

const (
	own role = iota
	highOfPair
	lowOfPair
	lone
)

// roles tell what each unit is: pairs are taken as they come, from the first unit on.
func roles(u []uint16) []role {
	out := make([]role, len(u))
	for i, x := range u {
		switch {
		case !isHigh(x) && !isLow(x):
			out[i] = own
		case isLow(x) && i > 0 && out[i-1] == highOfPair:
			out[i] = lowOfPair
		case isHigh(x) && i+1 < len(u) && isLow(u[i+1]):
			out[i] = highOfPair
		default:
			out[i] = lone
		}
	}
	return out
}

// answer is what From and FromExact tell.
type answer struct {
	bytes string
	place int
	errno api.Errno
}

func (a answer) String() string { return fmt.Sprintf("%q, %d, %d", a.bytes, a.place, a.errno) }

func told(b []byte, place int, errno api.Errno) answer { return answer{string(b), place, errno} }

// wantFrom is the answer of From by the document's words.
func wantFrom(u []uint16) answer {
	if p := slices.Index(roles(u), lone); p >= 0 {
		return answer{"", p, api.ErrLone}
	}
	return answer{string(utf16.Decode(u)), 0, api.OK}
}

// byteRun are the bytes of the byte units that stand there one directly behind the other.
func byteRun(u []uint16, what []role) []byte {
	var out []byte
	for i, x := range u {
		if what[i] != lone || x < 0xDC80 || x > 0xDCFF {
			break
		}
		out = append(out, byte(x-0xDC00))
	}
	return out
}

// beginsEncoding tells whether the first bytes are an encoding.
func beginsEncoding(b []byte) bool {
	for n := 1; n <= len(b); n++ {
		if utf8.Valid(b[:n]) && utf8.RuneCount(b[:n]) == 1 {
			return true
		}
	}
	return false
}

// wantFromExact is the answer of FromExact by the document's words.
func wantFromExact(u []uint16) answer {
	var out []byte
	what := roles(u)
	for p, x := range u {
		run := byteRun(u[p:], what[p:])
		switch {
		case what[p] == lowOfPair:
		case what[p] == own:
			out = append(out, string(rune(x))...)
		case what[p] == highOfPair:
			out = append(out, string(utf16.DecodeRune(rune(x), rune(u[p+1])))...)
		case len(run) == 0:
			return answer{"", p, api.ErrLone}
		case beginsEncoding(run):
			return answer{"", p, api.ErrJoins}
		default:
			out = append(out, run[0])
		}
	}
	return answer{string(out), 0, api.OK}
}

// strung calls f with all lists of that length, of these things.
func strung[T any](set []T, length int, f func(list []T)) {
	list := make([]T, length)
	var fill func(i int)
	fill = func(i int) {
		if i == length {
			f(list)
			return
		}
		for _, x := range set {
			list[i] = x
			fill(i + 1)
		}
	}
	fill(0)
}

// edgeBytes stand beside the limits of all classes, and of what may stand second.
var edgeBytes = []byte{0x00, 0x61, 0x7F, 0x80, 0x8F, 0x90, 0x9F, 0xA0, 0xBD, 0xBF, 0xC1, 0xC2, 0xDF, 0xE0, 0xE1, 0xED, 0xEF, 0xF0, 0xF1, 0xF4, 0xF5, 0xFF}

// fewBytes are enough to make, to break off and to break a step of each width.
var fewBytes = []byte{0x61, 0x80, 0x9F, 0xC3, 0xE2, 0xF0}

// texts calls f with many texts, valid ones and others.
func texts(f func(b []byte)) {
	for length := 0; length <= 3; length++ {
		strung(edgeBytes, length, f)
	}
	for length := 4; length <= 6; length++ {
		strung(fewBytes, length, f)
	}
	list := []string{"", "a", "\u00e9", "\u20ac", "\U0001F600", "\uFFFC", "\uFFFD", "\uFFFF", "\U00010000", "\U0010FFFF", "\uD7FF", "\uE000", "\x80", "\xc3", "\xe2\x82", "\xf0\x9f\x98", "\xe0\x9f\xbf", "\xed\xa0\x80", "\xed\xb3\xbf", "\xf0\x8f\xbf\xbf", "\xf4\x90\x80\x80", "\xef\xbf", "\xff", "\x00"}
	strung(list, 3, func(list []string) { f([]byte(list[0] + list[1] + list[2])) })
}

// edgeUnits stand beside the limits of halves, of pairs, of byte units, and of the bytes that these stand for.
var edgeUnits = []uint16{0x0000, 0x0061, 0xD7FF, 0xD800, 0xD83D, 0xDBFF, 0xDC00, 0xDC7F, 0xDC80, 0xDC90, 0xDC9F, 0xDCA0, 0xDCBD, 0xDCBF, 0xDCC1, 0xDCC2, 0xDCDF, 0xDCE0, 0xDCED, 0xDCEF, 0xDCF0, 0xDCF4, 0xDCF5, 0xDCFF, 0xDD00, 0xDE00, 0xDFFF, 0xE000, 0xFFFD, 0xFFFF}

// fewUnits are enough to make pairs and lone halves, and byte units that join and such that do not.
var fewUnits = []uint16{0x0061, 0xD83D, 0xDE00, 0xDC80, 0xDC9F, 0xDCC3, 0xDCE2, 0xDCF0}

// lists calls f with many lists of units, such that say bytes and others.
func lists(f func(u []uint16)) {
	for length := 0; length <= 3; length++ {
		strung(edgeUnits, length, f)
	}
	for length := 4; length <= 6; length++ {
		strung(fewUnits, length, f)
	}
}

// edgeRunes are the limits that the document names, with the numbers beside them, and far ones.
var edgeRunes = []rune{math.MinInt32, -0x10000, -2, -1, 0, 1, 0x60, 0x61, 0x7F, 0x80, 0x7FF, 0x800, 0xD7FE, 0xD7FF, 0xD800, 0xD801, 0xDBFF, 0xDC00, 0xDC80, 0xDCFF, 0xDFFE, 0xDFFF, 0xE000, 0xE001, 0xFFFC, 0xFFFD, 0xFFFE, 0xFFFF, 0x10000, 0x10001, 0x1F600, 0x10FFFE, 0x10FFFF, 0x110000, 0x110001, 0x10D800, 0x110D800, math.MaxInt32}

func TestP3_1LenOfTheExamples(t *testing.T) {
	for _, c := range []struct {
		r    rune
		want int
	}{{0x61, 1}, {0xFFFD, 1}, {0x1F600, 2}, {0xD800, 0}, {-1, 0}, {0x110000, 0}, {0, 1}, {0xD7FF, 1}, {0xDFFF, 0}, {0xE000, 1}, {0xFFFF, 1}, {0x10000, 2}, {0x10FFFF, 2}, {math.MinInt32, 0}, {math.MaxInt32, 0}} {
		if n := units.Len(c.r); n != c.want {
			t.Errorf("Len(%x): %d, not %d", c.r, n, c.want)
		}
	}
}

// everyNumber calls f with all runes, the numbers around them, and the edges.
func everyNumber(f func(r rune)) {
	for r := rune(-0x1000); r <= 0x111000; r++ {
		f(r)
	}
	for _, r := range edgeRunes {
		f(r)
	}
}

func TestP3_1LenOfEveryRune(t *testing.T) {
	everyNumber(func(r rune) {
		want := 0
		if isRune(r) {
			want = len(unitsOf(r))
		}
		if n := units.Len(r); n != want {
			t.Fatalf("Len(%x): %d, not %d", r, n, want)
		}
	})
}

func TestP3_2SplitAndJoinOfTheExamples(t *testing.T) {
	for _, c := range []struct {
		r      rune
		hi, lo uint16
		ok     bool
	}{
		{0x1F600, 0xD83D, 0xDE00, true},
		{0xFFFF, 0, 0, false},
		{0x10000, 0xD800, 0xDC00, true},
		{0x103FF, 0xD800, 0xDFFF, true},
		{0x10400, 0xD801, 0xDC00, true},
		{0x10FFFF, 0xDBFF, 0xDFFF, true},
		{0x110000, 0, 0, false},
		{0xD800, 0, 0, false},
		{-1, 0, 0, false},
	} {
		if hi, lo, ok := units.Split(c.r); hi != c.hi || lo != c.lo || ok != c.ok {
			t.Errorf("Split(%x): %x %x %v", c.r, hi, lo, ok)
		}
	}
	for _, c := range []struct {
		hi, lo uint16
		r      rune
		ok     bool
	}{
		{0xD83D, 0xDE00, 0x1F600, true},
		{0xDE00, 0xD83D, 0, false},
		{0xD800, 0xDC00, 0x10000, true},
		{0xDBFF, 0xDFFF, 0x10FFFF, true},
		{0xD800, 0xDC80, 0x10080, true},
		{0xD7FF, 0xDC00, 0, false},
		{0xDC00, 0xDC00, 0, false},
		{0xD800, 0xDBFF, 0, false},
		{0xD800, 0xE000, 0, false},
		{0, 0, 0, false},
		{0xFFFF, 0xFFFF, 0, false},
	} {
		if r, ok := units.Join(c.hi, c.lo); r != c.r || ok != c.ok {
			t.Errorf("Join(%x, %x): %x %v", c.hi, c.lo, r, ok)
		}
	}
}

func TestP3_2SplitOfEveryRune(t *testing.T) {
	everyNumber(func(r rune) {
		var want [2]uint16
		two := isRune(r) && r > 0xFFFF
		if two {
			want = [2]uint16(unitsOf(r))
		}
		hi, lo, ok := units.Split(r)
		if hi != want[0] || lo != want[1] || ok != two {
			t.Fatalf("Split(%x): %x %x %v", r, hi, lo, ok)
		}
		if back, is := units.Join(hi, lo); two && (back != r || !is) {
			t.Fatalf("Join(Split(%x)): %x %v", r, back, is)
		}
	})
}

func TestP3_2JoinOfManyPairs(t *testing.T) {
	for x := range 1 << 16 {
		for _, y := range edgeUnits {
			for _, p := range [][2]uint16{{uint16(x), y}, {y, uint16(x)}} {
				want := rune(0)
				pair := isHigh(p[0]) && isLow(p[1])
				if pair {
					want = utf16.DecodeRune(rune(p[0]), rune(p[1]))
				}
				if r, ok := units.Join(p[0], p[1]); r != want || ok != pair {
					t.Fatalf("Join(%x, %x): %x %v", p[0], p[1], r, ok)
				}
			}
		}
	}
}

// exampleTexts are the chapter's, and the edges of runes and of encodings.
var exampleTexts = []struct {
	b           string
	seen, exact []uint16
}{
	{"", nil, nil},
	{"\x61\xe2\x82\xac\xf0\x9f\x98\x80\xe2\x82", []uint16{0x61, 0x20AC, 0xD83D, 0xDE00, 0xFFFD, 0xFFFD}, []uint16{0x61, 0x20AC, 0xD83D, 0xDE00, 0xDCE2, 0xDC82}},
	{"\xef\xbf\xbd", []uint16{0xFFFD}, []uint16{0xFFFD}},
	{"\x61\xe2\x82", []uint16{0x61, 0xFFFD, 0xFFFD}, []uint16{0x61, 0xDCE2, 0xDC82}},
	{"\x00", []uint16{0}, []uint16{0}},
	{"\xed\x9f\xbf", []uint16{0xD7FF}, []uint16{0xD7FF}},
	{"\xee\x80\x80", []uint16{0xE000}, []uint16{0xE000}},
	{"\xef\xbf\xbf", []uint16{0xFFFF}, []uint16{0xFFFF}},
	{"\xf0\x90\x80\x80", []uint16{0xD800, 0xDC00}, []uint16{0xD800, 0xDC00}},
	{"\xf4\x8f\xbf\xbf", []uint16{0xDBFF, 0xDFFF}, []uint16{0xDBFF, 0xDFFF}},
	{"\xed\xa0\x80", []uint16{0xFFFD, 0xFFFD, 0xFFFD}, []uint16{0xDCED, 0xDCA0, 0xDC80}},
	{"\xf4\x90\x80\x80", []uint16{0xFFFD, 0xFFFD, 0xFFFD, 0xFFFD}, []uint16{0xDCF4, 0xDC90, 0xDC80, 0xDC80}},
	{"\x80\x7f\xff", []uint16{0xFFFD, 0x7F, 0xFFFD}, []uint16{0xDC80, 0x7F, 0xDCFF}},
	{"\xef\xbf\xbd\xef\xbf", []uint16{0xFFFD, 0xFFFD, 0xFFFD}, []uint16{0xFFFD, 0xDCEF, 0xDCBF}},
	{"\xc3\xc3\xa9", []uint16{0xFFFD, 0xE9}, []uint16{0xDCC3, 0xE9}},
	{"\xf0\x9f\x98\x80\x80\xf0\x9f\x98\x80", []uint16{0xD83D, 0xDE00, 0xFFFD, 0xD83D, 0xDE00}, []uint16{0xD83D, 0xDE00, 0xDC80, 0xD83D, 0xDE00}},
}

func TestP3_3ToOfTheExamples(t *testing.T) {
	for _, c := range exampleTexts {
		if got := units.To([]byte(c.b)); !slices.Equal(got, c.seen) {
			t.Errorf("To(% x): %x, not %x", c.b, got, c.seen)
		}
	}
	if len(units.To(nil)) != 0 {
		t.Error("To(nil) is not empty")
	}
}

func TestP3_3ToOfManyTexts(t *testing.T) {
	texts(func(b []byte) {
		if got, want := units.To(b), wantTo(b, false); !slices.Equal(got, want) {
			t.Fatalf("To(% x): %x, not %x", b, got, want)
		}
	})
}

// everyRune calls f with each rune and its encoding.
func everyRune(f func(r rune, b []byte)) {
	for r := rune(0); r <= 0x10FFFF; r++ {
		if isRune(r) {
			f(r, utf8.AppendRune(nil, r))
		}
	}
}

func TestP3_3ToOfEveryRune(t *testing.T) {
	everyRune(func(r rune, b []byte) {
		if got := units.To(b); !slices.Equal(got, unitsOf(r)) || len(got) != units.Len(r) {
			t.Fatalf("To(% x): %x", b, got)
		}
	})
}

func TestP3_4FromOfTheExamples(t *testing.T) {
	for _, c := range []struct {
		u    []uint16
		want answer
	}{
		{nil, answer{}},
		{[]uint16{}, answer{}},
		{[]uint16{0xD83D, 0xDE00, 0x61}, answer{"\xf0\x9f\x98\x80\x61", 0, api.OK}},
		{[]uint16{0x61, 0xDE00}, answer{"", 1, api.ErrLone}},
		{[]uint16{0xD83D}, answer{"", 0, api.ErrLone}},
		{[]uint16{0xD83D, 0xD83D, 0xDE00}, answer{"", 0, api.ErrLone}},
		// A pair at the beginning, in the midst and at the end.
		{[]uint16{0xD83D, 0xDE00, 0x61, 0x62}, answer{"\xf0\x9f\x98\x80ab", 0, api.OK}},
		{[]uint16{0x61, 0xD83D, 0xDE00, 0x62}, answer{"a\xf0\x9f\x98\x80b", 0, api.OK}},
		{[]uint16{0x61, 0x62, 0xD83D, 0xDE00}, answer{"ab\xf0\x9f\x98\x80", 0, api.OK}},
		{[]uint16{0xD800, 0xDC00, 0xDBFF, 0xDFFF}, answer{"\U00010000\U0010FFFF", 0, api.OK}},
		{[]uint16{0, 0xD7FF, 0xE000, 0xFFFD, 0xFFFF}, answer{"\x00\uD7FF\uE000\uFFFD\uFFFF", 0, api.OK}},
		// Lone halves of either kind ahead of pairs, between them and behind them.
		{[]uint16{0xDE00, 0xD83D, 0xDE00}, answer{"", 0, api.ErrLone}},
		{[]uint16{0xD83D, 0xDE00, 0xDE00, 0xD83D, 0xDE00}, answer{"", 2, api.ErrLone}},
		{[]uint16{0xD83D, 0xDE00, 0xD83D, 0xD83D, 0xDE00}, answer{"", 2, api.ErrLone}},
		{[]uint16{0xD83D, 0xDE00, 0xDE00}, answer{"", 2, api.ErrLone}},
		{[]uint16{0xD83D, 0xDE00, 0xD83D}, answer{"", 2, api.ErrLone}},
		{[]uint16{0xD83D, 0x61, 0xDE00}, answer{"", 0, api.ErrLone}},
		{[]uint16{0x61, 0xD800}, answer{"", 1, api.ErrLone}},
		{[]uint16{0x61, 0xDFFF}, answer{"", 1, api.ErrLone}},
		// The first one is told, of several.
		{[]uint16{0x61, 0xDBFF, 0x61, 0xDC00}, answer{"", 1, api.ErrLone}},
		// Seen units know no byte units.
		{[]uint16{0x61, 0xDC80}, answer{"", 1, api.ErrLone}},
		{[]uint16{0xDCFF}, answer{"", 0, api.ErrLone}},
	} {
		if got := told(units.From(c.u)); got != c.want {
			t.Errorf("From(%x): %v, not %v", c.u, got, c.want)
		}
	}
}

func TestP3_4FromOfManyLists(t *testing.T) {
	lists(func(u []uint16) {
		if got, want := told(units.From(u)), wantFrom(u); got != want {
			t.Fatalf("From(%x): %v, not %v", u, got, want)
		}
	})
}

func TestP3_4FromOfEveryUnitAlone(t *testing.T) {
	for x := range 1 << 16 {
		u := []uint16{uint16(x)}
		if got, want := told(units.From(u)), wantFrom(u); got != want {
			t.Fatalf("From(%x): %v, not %v", u, got, want)
		}
	}
}

func TestP3_4FromOfEveryRune(t *testing.T) {
	everyRune(func(r rune, b []byte) {
		if got := told(units.From(unitsOf(r))); got != (answer{string(b), 0, api.OK}) {
			t.Fatalf("From(%x): %v", unitsOf(r), got)
		}
	})
}

func TestP3_5ToExactOfTheExamples(t *testing.T) {
	for _, c := range exampleTexts {
		if got := units.ToExact([]byte(c.b)); !slices.Equal(got, c.exact) {
			t.Errorf("ToExact(% x): %x, not %x", c.b, got, c.exact)
		}
	}
	if len(units.ToExact(nil)) != 0 {
		t.Error("ToExact(nil) is not empty")
	}
}

func TestP3_5ToExactOfManyTexts(t *testing.T) {
	texts(func(b []byte) {
		if got, want := units.ToExact(b), wantTo(b, true); !slices.Equal(got, want) {
			t.Fatalf("ToExact(% x): %x, not %x", b, got, want)
		}
	})
}

func TestP3_5ToExactOfEveryByteAlone(t *testing.T) {
	for x := range 256 {
		want := uint16(x)
		if x >= 0x80 {
			want += 0xDC00
		}
		if got := units.ToExact([]byte{byte(x)}); !slices.Equal(got, []uint16{want}) {
			t.Errorf("ToExact(%x): %x", x, got)
		}
	}
}

func TestP3_6FromExactOfTheExamples(t *testing.T) {
	for _, c := range []struct {
		u    []uint16
		want answer
	}{
		{nil, answer{}},
		{[]uint16{}, answer{}},
		{[]uint16{0xDCE2, 0xDC82, 0x61}, answer{"\xe2\x82\x61", 0, api.OK}},
		{[]uint16{0x61, 0xDCE2, 0xDC82, 0xDCAC}, answer{"", 1, api.ErrJoins}},
		{[]uint16{0xDCC3, 0xDCC3, 0xDCA9}, answer{"", 1, api.ErrJoins}},
		{[]uint16{0xDC7F}, answer{"", 0, api.ErrLone}},
		{[]uint16{0xDD00}, answer{"", 0, api.ErrLone}},
		{[]uint16{0xD83D}, answer{"", 0, api.ErrLone}},
		{[]uint16{0xD800, 0xDC80}, answer{"\xf0\x90\x82\x80", 0, api.OK}},
		{[]uint16{0xDCE2, 0xDC82, 0xDCAC}, answer{"", 0, api.ErrJoins}},
		// An encoding that breaks off at the end, and one that another unit breaks off.
		{[]uint16{0x61, 0xDCC3}, answer{"a\xc3", 0, api.OK}},
		{[]uint16{0xDCE2, 0xDC82}, answer{"\xe2\x82", 0, api.OK}},
		{[]uint16{0xDCF0, 0xDC9F, 0xDC98}, answer{"\xf0\x9f\x98", 0, api.OK}},
		{[]uint16{0xDCE2, 0xDC82, 0xAC}, answer{"\xe2\x82\xc2\xac", 0, api.OK}},
		{[]uint16{0xDCE2, 0xDC82, 0x61, 0xDCAC}, answer{"\xe2\x82a\xac", 0, api.OK}},
		{[]uint16{0xDCE2, 0xD800, 0xDC82, 0xDCAC}, answer{"\xe2\xf0\x90\x82\x82\xac", 0, api.OK}},
		{[]uint16{0xDCE2, 0xDC82, 0xD800, 0xDCAC}, answer{"\xe2\x82\xf0\x90\x82\xac", 0, api.OK}},
		{[]uint16{0xDCE2, 0xDC82, 0xDCE2, 0xDC82}, answer{"\xe2\x82\xe2\x82", 0, api.OK}},
		// Lone Tails, bytes that stand in no encoding, and such as may not stand second.
		{[]uint16{0xDC80}, answer{"\x80", 0, api.OK}},
		{[]uint16{0xDCBF, 0xDCBF}, answer{"\xbf\xbf", 0, api.OK}},
		{[]uint16{0xDCC0, 0xDC80, 0xDCFF}, answer{"\xc0\x80\xff", 0, api.OK}},
		{[]uint16{0xDCED, 0xDCA0, 0xDC80}, answer{"\xed\xa0\x80", 0, api.OK}},
		{[]uint16{0xDCF4, 0xDC90, 0xDC80, 0xDC80}, answer{"\xf4\x90\x80\x80", 0, api.OK}},
		{[]uint16{0xDCE0, 0xDC9F, 0xDCBF}, answer{"\xe0\x9f\xbf", 0, api.OK}},
		{[]uint16{0xDCF0, 0xDC8F, 0xDCBF, 0xDCBF}, answer{"\xf0\x8f\xbf\xbf", 0, api.OK}},
		// Encodings of each width, the bytes of U+FFFD among them.
		{[]uint16{0xDCC2, 0xDC80}, answer{"", 0, api.ErrJoins}},
		{[]uint16{0xDCEF, 0xDCBF, 0xDCBD}, answer{"", 0, api.ErrJoins}},
		{[]uint16{0xDCF0, 0xDC9F, 0xDC98, 0xDC80}, answer{"", 0, api.ErrJoins}},
		{[]uint16{0xDCF0, 0xDC9F, 0xDCF0, 0xDC9F, 0xDC98, 0xDC80}, answer{"", 2, api.ErrJoins}},
		{[]uint16{0xDC80, 0xDCC3, 0xDCA9, 0xDC80}, answer{"", 1, api.ErrJoins}},
		{[]uint16{0xFFFD}, answer{"\xef\xbf\xbd", 0, api.OK}},
		{[]uint16{0xDCEF, 0xDCBF, 0xFFFD}, answer{"\xef\xbf\xef\xbf\xbd", 0, api.OK}},
		// Of two faults the first is told, whichever it is.
		{[]uint16{0xDCC3, 0xDCA9, 0xD83D}, answer{"", 0, api.ErrJoins}},
		{[]uint16{0xD83D, 0x61, 0xDCC3, 0xDCA9}, answer{"", 0, api.ErrLone}},
		{[]uint16{0xDCE2, 0xDC82, 0xD83D}, answer{"", 2, api.ErrLone}},
		// Lone halves that are no byte units, ahead of pairs, between them and behind them.
		{[]uint16{0xDC00, 0xD83D, 0xDE00}, answer{"", 0, api.ErrLone}},
		{[]uint16{0xD83D, 0xD83D, 0xDE00}, answer{"", 0, api.ErrLone}},
		{[]uint16{0xD83D, 0xDE00, 0xDC7F, 0xD83D, 0xDE00}, answer{"", 2, api.ErrLone}},
		{[]uint16{0xD83D, 0xDE00, 0xDFFF}, answer{"", 2, api.ErrLone}},
		{[]uint16{0xD83D, 0xDE00, 0xDBFF}, answer{"", 2, api.ErrLone}},
		// Byte units directly behind a pair and directly ahead of one.
		{[]uint16{0xD83D, 0xDE00, 0xDC80, 0xD83D, 0xDE00}, answer{"\U0001F600\x80\U0001F600", 0, api.OK}},
		{[]uint16{0xD83D, 0xDCC3, 0xDCA9}, answer{"\U0001F4C3\xa9", 0, api.OK}},
	} {
		if got := told(units.FromExact(c.u)); got != c.want {
			t.Errorf("FromExact(%x): %v, not %v", c.u, got, c.want)
		}
	}
}

func TestP3_6FromExactOfManyLists(t *testing.T) {
	lists(func(u []uint16) {
		if got, want := told(units.FromExact(u)), wantFromExact(u); got != want {
			t.Fatalf("FromExact(%x): %v, not %v", u, got, want)
		}
	})
}

func TestP3_6FromExactOfEveryUnitAlone(t *testing.T) {
	for x := range 1 << 16 {
		u := []uint16{uint16(x)}
		if got, want := told(units.FromExact(u)), wantFromExact(u); got != want {
			t.Fatalf("FromExact(%x): %v, not %v", u, got, want)
		}
	}
}

// The bytes of every rune above 7F, as byte units, would be read as that rune.
func TestP3_6EveryEncodingJoins(t *testing.T) {
	everyRune(func(r rune, b []byte) {
		if r <= 0x7F {
			return
		}
		u := []uint16{0xDC80}
		for _, x := range b {
			u = append(u, 0xDC00+uint16(x))
		}
		if got := told(units.FromExact(u)); got != (answer{"", 1, api.ErrJoins}) {
			t.Fatalf("FromExact(%x): %v", u, got)
		}
		if got := told(units.FromExact(u[:len(u)-1])); got != (answer{"\x80" + string(b[:len(b)-1]), 0, api.OK}) {
			t.Fatalf("FromExact(%x): %v", u[:len(u)-1], got)
		}
	})
}

func TestP3_7ExactThereAndBack(t *testing.T) {
	texts(func(b []byte) {
		if got := told(units.FromExact(units.ToExact(b))); got != (answer{string(b), 0, api.OK}) {
			t.Fatalf("FromExact(ToExact(% x)): %v", b, got)
		}
	})
	lists(func(u []uint16) {
		b, _, e := units.FromExact(u)
		if got := units.ToExact(b); e == api.OK && !slices.Equal(got, u) {
			t.Fatalf("ToExact(FromExact(%x)): %x", u, got)
		}
	})
}

// tamed has EF BF BD in the place of each bad byte.
func tamed(b []byte) string {
	var out []byte
	for _, s := range parts(b) {
		if s.whole {
			out = append(out, s.bytes...)
		} else {
			out = append(out, 0xEF, 0xBF, 0xBD)
		}
	}
	return string(out)
}

func TestP3_7SeenThereAndBack(t *testing.T) {
	texts(func(b []byte) {
		got := told(units.From(units.To(b)))
		if got != (answer{tamed(b), 0, api.OK}) {
			t.Fatalf("From(To(% x)): %v", b, got)
		}
		if (got.bytes == string(b)) != utf8.Valid(b) {
			t.Fatalf("From(To(% x)): % x", b, got.bytes)
		}
	})
	lists(func(u []uint16) {
		b, _, e := units.From(u)
		if got := units.To(b); e == api.OK && !slices.Equal(got, u) {
			t.Fatalf("To(From(%x)): %x", u, got)
		}
	})
}

func TestP3_7SeenAndExactDifferAtBadBytes(t *testing.T) {
	texts(func(b []byte) {
		seen, exact := units.To(b), units.ToExact(b)
		size := 0
		for _, s := range parts(b) {
			if s.whole && s.rune > 0xFFFF {
				size++
			}
			size++
		}
		if len(seen) != size || len(exact) != size {
			t.Fatalf("% x: %d and %d units, not %d", b, len(seen), len(exact), size)
		}
		at := 0
		for _, s := range parts(b) {
			n := max(units.Len(s.rune), 1)
			if slices.Equal(seen[at:at+n], exact[at:at+n]) != s.whole {
				t.Fatalf("% x: seen %x, exact %x", b, seen, exact)
			}
			at += n
		}
	})
}

func TestP3_7LongTexts(t *testing.T) {
	long := bytes.Repeat([]byte("a\u20ac\U0001F600\xe2\x82\xff\uFFFD"), 20000)
	if got := told(units.FromExact(units.ToExact(long))); got != (answer{string(long), 0, api.OK}) {
		t.Error("exact: not the bytes")
	}
	if got := told(units.From(units.To(long))); got != (answer{tamed(long), 0, api.OK}) {
		t.Error("seen: not the bytes")
	}
	u := append(units.ToExact(long), 0xD800)
	if got := told(units.FromExact(u)); got != (answer{"", len(u) - 1, api.ErrLone}) {
		t.Errorf("FromExact: %d, %d", got.place, got.errno)
	}
	u = append(units.To(long), 0xDCE2)
	if got := told(units.From(u)); got != (answer{"", len(u) - 1, api.ErrLone}) {
		t.Errorf("From: %d, %d", got.place, got.errno)
	}
}

// What is handed in stays, what lies around it in the same memory too.
func TestP3_7WhatIsHandedInStays(t *testing.T) {
	room := []byte("<\xe2\x82\xac\xf0\x9f\x98\x80\xe2\x82\xac\x80>")
	kept := bytes.Clone(room)
	for lo := range room {
		for hi := lo; hi <= len(room); hi++ {
			units.To(room[lo:hi])
			units.ToExact(room[lo:hi])
		}
	}
	if !bytes.Equal(room, kept) {
		t.Errorf("the bytes were % x, and are % x", kept, room)
	}
	list := []uint16{0x61, 0xD83D, 0xDE00, 0xDCE2, 0xDC82, 0xDCAC, 0xD83D, 0x62}
	same := slices.Clone(list)
	for lo := range list {
		for hi := lo; hi <= len(list); hi++ {
			units.From(list[lo:hi])
			units.FromExact(list[lo:hi])
		}
	}
	if !slices.Equal(list, same) {
		t.Errorf("the units were %x, and are %x", same, list)
	}
}

// What lies behind the list in the same memory is none of it.
func TestP3_7SpareRoomIsNotRead(t *testing.T) {
	room := []byte("\xe2\x82\xac")
	if got := units.ToExact(room[:2]); !slices.Equal(got, []uint16{0xDCE2, 0xDC82}) {
		t.Errorf("ToExact: %x", got)
	}
	if got := units.To(room[:2]); !slices.Equal(got, []uint16{0xFFFD, 0xFFFD}) {
		t.Errorf("To: %x", got)
	}
	pair := []uint16{0xD83D, 0xDE00}
	if got := told(units.From(pair[:1])); got != (answer{"", 0, api.ErrLone}) {
		t.Errorf("From: %v", got)
	}
	joined := []uint16{0xDCC3, 0xDCA9}
	if got := told(units.FromExact(joined[:1])); got != (answer{"\xc3", 0, api.OK}) {
		t.Errorf("FromExact: %v", got)
	}
}

// spoil overwrites a list with all its spare room.
func spoil[T any](list []T, with T) {
	list = list[:cap(list)]
	for i := range list {
		list[i] = with
	}
}

func TestP3_7UnitsAreNewMemory(t *testing.T) {
	for _, to := range []func([]byte) []uint16{units.To, units.ToExact} {
		for _, text := range []string{"", "abc", "a\u20ac\U0001F600\xe2\x82"} {
			b := []byte(text)
			one, two := to(b), to(b)
			want := slices.Clone(two)
			spoil(one, 0x7777)
			if !slices.Equal(two, want) || string(b) != text || !slices.Equal(to(b), want) {
				t.Errorf("% x: %x, not %x", b, two, want)
			}
			spoil(b, 0x77)
			if !slices.Equal(two, want) {
				t.Errorf("% x changed, and the units are %x, not %x", text, two, want)
			}
		}
	}
}

func TestP3_7BytesAreNewMemory(t *testing.T) {
	for _, from := range []func([]uint16) ([]byte, int, api.Errno){units.From, units.FromExact} {
		for _, list := range [][]uint16{{}, {0x61, 0x62}, {0x61, 0x20AC, 0xD83D, 0xDE00}} {
			u := slices.Clone(list)
			one, _, _ := from(u)
			two, _, _ := from(u)
			want := bytes.Clone(two)
			spoil(one, 0x77)
			if again, _, _ := from(u); !bytes.Equal(two, want) || !bytes.Equal(again, want) || !slices.Equal(u, list) {
				t.Errorf("%x: % x, not % x", u, two, want)
			}
			spoil(u, 0x7777)
			if !bytes.Equal(two, want) {
				t.Errorf("%x changed, and the bytes are % x, not % x", list, two, want)
			}
		}
	}
}
