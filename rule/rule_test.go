package rule_test

import (
	"bytes"
	"fmt"
	"math"
	"slices"
	"strings"
	"testing"
	"unicode/utf8"

	"galley/api"
	"galley/rule"
)

const (
	least    = math.MinInt
	greatest = math.MaxInt
)

var (
	rulers = []api.Ruler{api.Bytes, api.Runes, api.Units}
	modes  = []api.Mode{api.Down, api.Up, api.Exact}
)

// noRulers and noModes are none of the three.
var (
	noRulers = []api.Ruler{0, 4, -1, -3, 5, 256 + 1, 1<<32 + 1, least, least + 1, greatest}
	noModes  = []api.Mode{0, 4, -1, -3, 5, 256 + 1, 1<<32 + 1, least, least + 1, greatest}
)

// example is the chapter's text: a, U+1F600, two bad bytes, a line end.
const example = "a\xf0\x9f\x98\x80\xe2\x82\n"

// model holds of a text, by the library and by the document's words, what each step counts by each ruler, and all edges: tables[r][i] is edge i by the ruler r.
type model struct {
	text   []byte
	steps  []string
	tables [4][]int
}

func modelOf(b []byte) *model {
	m := &model{text: b}
	at := [4]int{}
	put := func() {
		for _, r := range rulers {
			m.tables[r] = append(m.tables[r], at[r])
		}
	}
	put()
	for left := b; len(left) > 0; {
		r, n := utf8.DecodeRune(left)
		m.steps = append(m.steps, string(left[:n]))
		left = left[n:]
		at[api.Bytes] += n
		at[api.Runes]++
		at[api.Units]++
		if r >= 1<<16 {
			at[api.Units]++
		}
		put()
	}
	return m
}

func (m *model) size(r api.Ruler) int { return m.tables[r][len(m.steps)] }

func knownRuler(r api.Ruler) bool { return slices.Contains(rulers, r) }

func knownMode(m api.Mode) bool { return slices.Contains(modes, m) }

// find is the number of the edge that a place is, or goes to by the mode; the place must be one.
func (m *model) find(r api.Ruler, place int, mode api.Mode) (int, api.Errno) {
	table := m.tables[r]
	if i := slices.Index(table, place); i >= 0 {
		return i, api.OK
	}
	switch mode {
	case api.Exact:
		return 0, api.ErrInside
	case api.Up:
		return slices.IndexFunc(table, func(x int) bool { return x > place }), api.OK
	}
	down := 0
	for i, x := range table {
		if x < place {
			down = i
		}
	}
	return down, api.OK
}

func (m *model) to(from api.Ruler, place int, to api.Ruler, mode api.Mode) (int, api.Errno) {
	if !knownRuler(from) || !knownRuler(to) || !knownMode(mode) {
		return 0, api.ErrRuler
	}
	if place < 0 || place > m.size(from) {
		return 0, api.ErrRange
	}
	i, err := m.find(from, place, mode)
	if err != api.OK {
		return 0, err
	}
	return m.tables[to][i], api.OK
}

func (m *model) cut(r api.Ruler, lo, hi int, mode api.Mode) (string, api.Errno) {
	if !knownRuler(r) || !knownMode(mode) {
		return "", api.ErrRuler
	}
	if lo < 0 || hi < lo || hi > m.size(r) {
		return "", api.ErrRange
	}
	i, errLo := m.find(r, lo, mode)
	j, errHi := m.find(r, hi, mode)
	if errLo != api.OK || errHi != api.OK {
		return "", api.ErrInside
	}
	return strings.Join(m.steps[i:j], ""), api.OK
}

func (m *model) edge(r api.Ruler, place int) bool {
	return knownRuler(r) && slices.Contains(m.tables[r], place)
}

func (m *model) holdSizes(t *testing.T) {
	t.Helper()
	for _, r := range rulers {
		if n, err := rule.Size(m.text, r); n != m.size(r) || err != api.OK {
			t.Fatalf("Size(% x, %d) is %d, %d, want %d", m.text, r, n, err, m.size(r))
		}
		if l, err := rule.Table(m.text, r); !slices.Equal(l, m.tables[r]) || err != api.OK {
			t.Fatalf("Table(% x, %d) is %v, %d, want %v", m.text, r, l, err, m.tables[r])
		}
	}
}

func (m *model) holdTo(t *testing.T, from api.Ruler, place int, to api.Ruler, mode api.Mode) {
	t.Helper()
	want, wantErr := m.to(from, place, to, mode)
	if n, err := rule.To(m.text, from, place, to, mode); n != want || err != wantErr {
		t.Fatalf("To(% x, %d, %d, %d, %d) is %d, %d, want %d, %d", m.text, from, place, to, mode, n, err, want, wantErr)
	}
}

func (m *model) holdEdge(t *testing.T, r api.Ruler, place int) {
	t.Helper()
	if got, want := rule.Edge(m.text, r, place), m.edge(r, place); got != want {
		t.Fatalf("Edge(% x, %d, %d) is %v", m.text, r, place, got)
	}
}

func (m *model) holdCut(t *testing.T, r api.Ruler, lo, hi int, mode api.Mode) {
	t.Helper()
	want, wantErr := m.cut(r, lo, hi, mode)
	c, err := rule.Cut(m.text, r, lo, hi, mode)
	if string(c) != want || err != wantErr {
		t.Fatalf("Cut(% x, %d, %d, %d, %d) is % x, %d, want % x, %d", m.text, r, lo, hi, mode, c, err, want, wantErr)
	}
}

// edgeBytes: the first and the last byte of each class, those beside the narrower second ones, the line ends, and one from the midst of each.
var edgeBytes = []byte{
	0x00, 0x0A, 0x0D, 0x41, 0x7F, 0x80, 0x82, 0x8F, 0x90, 0x9F, 0xA0, 0xAC, 0xBF, 0xC0, 0xC1, 0xC2, 0xC3, 0xDF,
	0xE0, 0xE1, 0xE2, 0xEC, 0xED, 0xEE, 0xEF, 0xF0, 0xF1, 0xF3, 0xF4, 0xF5, 0xFE, 0xFF,
}

// fewBytes: by which the steps part, for longer texts.
var fewBytes = []byte{0x41, 0x8F, 0x90, 0xA0, 0xC2, 0xE0, 0xE2, 0xED, 0xF0, 0xF1, 0xF4}

// leastBytes: out of which encodings of each length can still be made.
var leastBytes = []byte{0x41, 0x90, 0xC2, 0xE2, 0xF0}

// texts calls f with every text of n bytes out of some.
func texts(n int, some []byte, f func(b []byte)) {
	b := make([]byte, n)
	var fill func(i int)
	fill = func(i int) {
		if i == n {
			f(b)
			return
		}
		for _, x := range some {
			b[i] = x
			fill(i + 1)
		}
	}
	fill(0)
}

// shortTexts calls f with texts of no byte up to six bytes.
func shortTexts(f func(b []byte)) {
	every := make([]byte, 256)
	for i := range every {
		every[i] = byte(i)
	}
	texts(0, nil, f)
	texts(1, every, f)
	texts(2, edgeBytes, f)
	texts(3, fewBytes, f)
	texts(4, leastBytes, f)
	texts(5, leastBytes[1:], f)
	texts(6, leastBytes[1:], f)
}

// mixed are n bytes out of some, the same each time, that follow no short rule.
func mixed(n int, seed uint32, some []byte) []byte {
	out := make([]byte, n)
	for i := range out {
		seed = seed*1664525 + 1013904223
		out[i] = some[int(seed>>16)%len(some)]
	}
	return out
}

// encodings: the first and the last of each row of the document's list, and some ordinary ones.
var encodings = []string{
	"\x00", "a", "\x7f", "\xc2\x80", "\xc3\xa9", "\xdf\xbf",
	"\xe0\xa0\x80", "\xe0\xbf\xbf", "\xe1\x80\x80", "\xe2\x82\xac", "\xec\xbf\xbf", "\xed\x80\x80", "\xed\x9f\xbf", "\xee\x80\x80", "\xef\xbf\xbd", "\xef\xbf\xbf",
	"\xf0\x90\x80\x80", "\xf0\x9f\x98\x80", "\xf0\xbf\xbf\xbf", "\xf1\x80\x80\x80", "\xf3\xbf\xbf\xbf", "\xf4\x80\x80\x80", "\xf4\x8f\xbf\xbf",
}

// noEncodings: bytes that are none, but nearly.
var noEncodings = []string{
	"\x80", "\xbf", "\xc0\x80", "\xc1\xbf", "\xc2", "\xe0\x9f\xbf", "\xe2\x82", "\xed\xa0\x80", "\xed\xbf\xbf", "\xf0\x8f\xbf\xbf", "\xf0\x9f\x98", "\xf0\x9f", "\xf4\x90\x80\x80", "\xf5\x80\x80\x80", "\xfe", "\xff",
}

func TestP6_1Examples(t *testing.T) {
	cases := []struct {
		text                string
		bytes, runes, units int
	}{
		{example, 8, 5, 6},
		{"", 0, 0, 0},
		{"a", 1, 1, 1},
		{"hello\r\n", 7, 7, 7},
		{"a\xf0\x9f\x98\x80\xe2\x82", 7, 4, 5},
		{"\xe2\x82", 2, 2, 2},
		{"\xac", 1, 1, 1},
		{"\xe2\x82\xac", 3, 1, 1},
		{"\xed\xa0\x80", 3, 3, 3},
		{"\xef\xbf\xbd", 3, 1, 1},
		{"\xff", 1, 1, 1},
		{"ñ€😀", 9, 3, 4},
		{"\uFFFF\U00010000", 7, 2, 3},
		{"\xf4\x8f\xbf\xbf\xf4\x90\x80\x80", 8, 5, 6},
		{"\xf0\x9f\x98\x80\xf0\x9f\x98\x80", 8, 2, 4},
	}
	for _, c := range cases {
		for i, want := range []int{c.bytes, c.runes, c.units} {
			if n, err := rule.Size([]byte(c.text), rulers[i]); n != want || err != api.OK {
				t.Errorf("Size(% x, %d) is %d, %d, want %d", c.text, rulers[i], n, err, want)
			}
		}
	}
}

func TestP6_1And6_4EveryShortText(t *testing.T) {
	shortTexts(func(b []byte) { modelOf(b).holdSizes(t) })
	texts(3, edgeBytes, func(b []byte) { modelOf(b).holdSizes(t) })
}

func TestP6_1And6_4LongTexts(t *testing.T) {
	for n := 7; n < 5000; n = n*3/2 + 1 {
		for seed := range uint32(6) {
			for _, some := range [][]byte{edgeBytes, fewBytes, leastBytes} {
				modelOf(mixed(n, seed, some)).holdSizes(t)
			}
		}
	}
	for _, s := range append(slices.Clone(encodings), noEncodings...) {
		modelOf([]byte(strings.Repeat(s, 1000))).holdSizes(t)
	}
}

func TestP6_1And6_3And6_4NoRuler(t *testing.T) {
	for _, text := range []string{"", "a", example} {
		b := []byte(text)
		for _, r := range noRulers {
			if n, err := rule.Size(b, r); n != 0 || err != api.ErrRuler {
				t.Errorf("Size(% x, %d) is %d, %d", b, r, n, err)
			}
			if l, err := rule.Table(b, r); len(l) != 0 || err != api.ErrRuler {
				t.Errorf("Table(% x, %d) is %v, %d", b, r, l, err)
			}
			for place := -1; place <= 9; place++ {
				if rule.Edge(b, r, place) {
					t.Errorf("Edge(% x, %d, %d) is true", b, r, place)
				}
			}
		}
	}
}

func TestP6_2Examples(t *testing.T) {
	const b, r, u = api.Bytes, api.Runes, api.Units
	cases := []struct {
		text  string
		from  api.Ruler
		place int
		to    api.Ruler
		m     api.Mode
		want  int
		err   api.Errno
	}{
		{example, b, 3, u, api.Down, 1, api.OK},
		{example, b, 3, u, api.Up, 3, api.OK},
		{example, b, 3, u, api.Exact, 0, api.ErrInside},
		{example, u, 2, b, api.Down, 1, api.OK},
		{example, u, 2, b, api.Up, 5, api.OK},
		{example, u, 2, b, api.Exact, 0, api.ErrInside},
		{example, u, 2, u, api.Down, 1, api.OK},
		{example, u, 2, u, api.Up, 3, api.OK},
		{example, u, 2, u, api.Exact, 0, api.ErrInside},
		{example, u, 2, r, api.Down, 1, api.OK},
		{example, u, 2, r, api.Up, 2, api.OK},
		{example, r, 2, b, api.Exact, 5, api.OK},
		{example, r, 6, b, api.Down, 0, api.ErrRange},
		{example, b, -1, r, api.Up, 0, api.ErrRange},
		{example, 4, 0, b, api.Down, 0, api.ErrRuler},
		{example, b, 9, r, 0, 0, api.ErrRuler},

		// One ruler to itself, at an edge and off it.
		{example, b, 5, b, api.Exact, 5, api.OK},
		{example, b, 4, b, api.Down, 1, api.OK},
		{example, b, 2, b, api.Up, 5, api.OK},
		{example, b, 2, b, api.Exact, 0, api.ErrInside},
		{example, r, 3, r, api.Exact, 3, api.OK},

		// The last place, and one more.
		{example, b, 8, u, api.Exact, 6, api.OK},
		{example, b, 9, u, api.Down, 0, api.ErrRange},
		{example, u, 6, b, api.Up, 8, api.OK},
		{example, u, 7, b, api.Up, 0, api.ErrRange},
		{example, r, 5, u, api.Down, 6, api.OK},
		{"", b, 0, u, api.Exact, 0, api.OK},
		{"", r, 0, b, api.Down, 0, api.OK},
		{"", u, 1, b, api.Down, 0, api.ErrRange},
		{"", b, -1, b, api.Up, 0, api.ErrRange},

		// A text that is one encoding, or ends with one.
		{"\xf0\x9f\x98\x80", b, 3, r, api.Up, 1, api.OK},
		{"\xf0\x9f\x98\x80", b, 3, r, api.Down, 0, api.OK},
		{"\xf0\x9f\x98\x80", u, 1, b, api.Up, 4, api.OK},
		{"\xf0\x9f\x98\x80", u, 1, b, api.Down, 0, api.OK},
		{"\xf0\x9f\x98", b, 2, u, api.Exact, 2, api.OK},
		{"ab\xe2\x82\xac", b, 4, u, api.Up, 3, api.OK},
		{"ab\xe2\x82\xac", b, 4, u, api.Down, 2, api.OK},
		{"\xed\xa0\x80", b, 1, u, api.Exact, 1, api.OK},

		// Two pairs beside one another: the place between them is an edge.
		{"\U0001F600\U0001F600", u, 2, b, api.Exact, 4, api.OK},
		{"\U0001F600\U0001F600", u, 3, b, api.Down, 4, api.OK},
		{"\U0001F600\U0001F600", u, 3, b, api.Up, 8, api.OK},
		{"\U0001F600\U0001F600", u, 1, r, api.Up, 1, api.OK},
	}
	for _, c := range cases {
		if n, err := rule.To([]byte(c.text), c.from, c.place, c.to, c.m); n != c.want || err != c.err {
			t.Errorf("To(% x, %d, %d, %d, %d) is %d, %d, want %d, %d", c.text, c.from, c.place, c.to, c.m, n, err, c.want, c.err)
		}
	}
}

// Every place of every ruler in every mode, and those directly beyond both ends.
func TestP6_2And6_3EveryPlaceOfShortTexts(t *testing.T) {
	shortTexts(func(b []byte) {
		m := modelOf(b)
		for _, from := range rulers {
			for place := -1; place <= m.size(from)+1; place++ {
				m.holdEdge(t, from, place)
				for _, to := range rulers {
					for _, mode := range modes {
						m.holdTo(t, from, place, to, mode)
					}
				}
			}
		}
	})
}

func TestP6_2LongTexts(t *testing.T) {
	for seed := range uint32(6) {
		for _, some := range [][]byte{edgeBytes, fewBytes, leastBytes} {
			m := modelOf(mixed(300, seed, some))
			for _, from := range rulers {
				for place := -1; place <= m.size(from)+1; place += 1 + place&1 {
					m.holdEdge(t, from, place)
					for _, to := range rulers {
						for _, mode := range modes {
							m.holdTo(t, from, place, to, mode)
						}
					}
				}
			}
		}
	}
}

func TestP6_2And6_5EncodingsBesideBadBytes(t *testing.T) {
	pieces := append(slices.Clone(encodings), noEncodings...)
	for _, ahead := range pieces {
		for _, behind := range pieces {
			m := modelOf([]byte(ahead + behind))
			for _, r := range rulers {
				for place := 0; place <= m.size(r); place++ {
					m.holdEdge(t, r, place)
					for _, mode := range modes {
						m.holdTo(t, r, place, api.Bytes, mode)
						m.holdTo(t, r, place, api.Units, mode)
						m.holdCut(t, r, 0, place, mode)
						m.holdCut(t, r, place, m.size(r), mode)
					}
				}
			}
		}
	}
}

// extremes are places that no text here has.
var extremes = []int{least, least + 1, -1 << 32, -256, -2, -1, 100, 256, 1 << 31, 1 << 32, 1<<32 + 1, greatest - 1, greatest}

func TestP6_2And6_3PlacesBeyondTheText(t *testing.T) {
	for _, text := range []string{"", "a", "\xf0\x9f\x98\x80", "\xe2", example} {
		b := []byte(text)
		for _, from := range rulers {
			for _, place := range extremes {
				if rule.Edge(b, from, place) {
					t.Errorf("Edge(% x, %d, %d) is true", b, from, place)
				}
				for _, to := range rulers {
					for _, mode := range modes {
						if n, err := rule.To(b, from, place, to, mode); n != 0 || err != api.ErrRange {
							t.Errorf("To(% x, %d, %d, %d, %d) is %d, %d", b, from, place, to, mode, n, err)
						}
					}
				}
			}
		}
	}
}

// A Ruler or a Mode that is none comes first, whatever the place is.
func TestP6_2ErrorsInTheirOrder(t *testing.T) {
	b := []byte(example)
	hold := func(from api.Ruler, to api.Ruler, mode api.Mode) {
		t.Helper()
		for _, place := range append([]int{0, 1, 2, 3, 5, 8, 9}, extremes...) {
			if n, err := rule.To(b, from, place, to, mode); n != 0 || err != api.ErrRuler {
				t.Errorf("To(% x, %d, %d, %d, %d) is %d, %d", b, from, place, to, mode, n, err)
			}
		}
	}
	for i, none := range noRulers {
		for _, good := range rulers {
			for _, mode := range modes {
				hold(none, good, mode)
				hold(good, none, mode)
				hold(none, none, mode)
			}
			for _, other := range rulers {
				hold(good, other, noModes[i])
			}
			hold(none, good, noModes[i])
			hold(good, none, noModes[i])
		}
		hold(none, none, noModes[i])
	}
	if _, err := rule.To(b, api.Bytes, 9, api.Units, api.Exact); err != api.ErrRange {
		t.Errorf("beyond the text, Exact: %d", err)
	}
}

func TestP6_3Examples(t *testing.T) {
	cases := []struct {
		text  string
		r     api.Ruler
		place int
		want  bool
	}{
		{example, api.Bytes, 4, false},
		{example, api.Bytes, 6, true},
		{example, api.Runes, 5, true},
		{example, api.Units, 7, false},
		{example, api.Bytes, 0, true},
		{example, api.Bytes, 2, false},
		{example, api.Bytes, 5, true},
		{example, api.Bytes, 8, true},
		{example, api.Bytes, 9, false},
		{example, api.Bytes, -1, false},
		{example, api.Runes, 6, false},
		{example, api.Units, 2, false},
		{example, api.Units, 3, true},
		{example, api.Units, 6, true},
		{"", api.Bytes, 0, true},
		{"", api.Runes, 0, true},
		{"", api.Units, 0, true},
		{"", api.Units, 1, false},
	}
	for _, c := range cases {
		if got := rule.Edge([]byte(c.text), c.r, c.place); got != c.want {
			t.Errorf("Edge(% x, %d, %d) is %v", c.text, c.r, c.place, got)
		}
	}
}

func TestP6_4Examples(t *testing.T) {
	cases := []struct {
		text                string
		bytes, runes, units []int
	}{
		{example, []int{0, 1, 5, 6, 7, 8}, []int{0, 1, 2, 3, 4, 5}, []int{0, 1, 3, 4, 5, 6}},
		{"a\xf0\x9f\x98\x80\xe2\x82", []int{0, 1, 5, 6, 7}, []int{0, 1, 2, 3, 4}, []int{0, 1, 3, 4, 5}},
		{"", []int{0}, []int{0}, []int{0}},
		{"é€", []int{0, 2, 5}, []int{0, 1, 2}, []int{0, 1, 2}},
		{"\xed\xa0\x80", []int{0, 1, 2, 3}, []int{0, 1, 2, 3}, []int{0, 1, 2, 3}},
		{"\r\n", []int{0, 1, 2}, []int{0, 1, 2}, []int{0, 1, 2}},
	}
	for _, c := range cases {
		for i, want := range [][]int{c.bytes, c.runes, c.units} {
			if l, err := rule.Table([]byte(c.text), rulers[i]); !slices.Equal(l, want) || err != api.OK {
				t.Errorf("Table(% x, %d) is %v, %d, want %v", c.text, rulers[i], l, err, want)
			}
		}
	}
	for _, r := range rulers {
		if l, err := rule.Table(nil, r); !slices.Equal(l, []int{0}) || err != api.OK {
			t.Errorf("Table(nil, %d) is %v, %d", r, l, err)
		}
	}
}

func TestP6_5Examples(t *testing.T) {
	const b, r, u = api.Bytes, api.Runes, api.Units
	cases := []struct {
		text   string
		r      api.Ruler
		lo, hi int
		m      api.Mode
		want   string
		err    api.Errno
	}{
		{example, u, 2, 4, api.Down, "\xf0\x9f\x98\x80\xe2", api.OK},
		{example, u, 2, 4, api.Up, "\xe2", api.OK},
		{example, r, 3, 2, api.Down, "", api.ErrRange},

		// Both within one encoding, and one on each side.
		{example, b, 2, 3, api.Down, "", api.OK},
		{example, b, 2, 4, api.Up, "", api.OK},
		{example, b, 3, 3, api.Exact, "", api.ErrInside},
		{example, u, 2, 2, api.Down, "", api.OK},
		{example, u, 2, 2, api.Up, "", api.OK},
		{example, u, 2, 2, api.Exact, "", api.ErrInside},
		{example, b, 0, 3, api.Down, "a", api.OK},
		{example, b, 0, 3, api.Up, "a\xf0\x9f\x98\x80", api.OK},
		{example, b, 3, 8, api.Down, "\xf0\x9f\x98\x80\xe2\x82\n", api.OK},
		{example, b, 3, 8, api.Up, "\xe2\x82\n", api.OK},
		{"\U0001F600\U0001F601", u, 1, 3, api.Down, "\U0001F600", api.OK},
		{"\U0001F600\U0001F601", u, 1, 3, api.Up, "\U0001F601", api.OK},
		{"\U0001F600\U0001F601", b, 3, 5, api.Down, "\U0001F600", api.OK},
		{"\U0001F600\U0001F601", b, 3, 5, api.Up, "\U0001F601", api.OK},

		// Exact: one of both is no edge.
		{example, u, 0, 2, api.Exact, "", api.ErrInside},
		{example, u, 2, 6, api.Exact, "", api.ErrInside},
		{example, b, 1, 5, api.Exact, "\xf0\x9f\x98\x80", api.OK},
		{example, b, 1, 4, api.Exact, "", api.ErrInside},
		{example, b, 2, 5, api.Exact, "", api.ErrInside},

		// All, nothing, and bad bytes.
		{example, b, 0, 8, api.Exact, example, api.OK},
		{example, r, 0, 5, api.Exact, example, api.OK},
		{example, u, 0, 6, api.Exact, example, api.OK},
		{example, r, 2, 4, api.Exact, "\xe2\x82", api.OK},
		{example, r, 4, 5, api.Exact, "\n", api.OK},
		{example, r, 5, 5, api.Exact, "", api.OK},
		{example, b, 8, 8, api.Down, "", api.OK},
		{"", b, 0, 0, api.Exact, "", api.OK},
		{"", u, 0, 0, api.Down, "", api.OK},

		// Places that are none, also beside one that is no edge.
		{example, b, -1, 3, api.Down, "", api.ErrRange},
		{example, b, -1, 3, api.Exact, "", api.ErrRange},
		{example, b, 3, 9, api.Exact, "", api.ErrRange},
		{example, u, 2, 7, api.Exact, "", api.ErrRange},
		{example, u, -1, 2, api.Exact, "", api.ErrRange},
		{example, b, 3, 2, api.Exact, "", api.ErrRange},
		{example, b, 3, 2, api.Up, "", api.ErrRange},
		{example, b, 9, 9, api.Up, "", api.ErrRange},
		{example, b, 8, 9, api.Up, "", api.ErrRange},
		{example, b, 9, 8, api.Up, "", api.ErrRange},
		{"", r, 0, 1, api.Down, "", api.ErrRange},
		{"", r, 1, 0, api.Down, "", api.ErrRange},

		// ErrRuler comes first.
		{example, 0, 3, 2, api.Down, "", api.ErrRuler},
		{example, 4, 0, 0, api.Exact, "", api.ErrRuler},
		{example, b, 3, 2, 0, "", api.ErrRuler},
		{example, b, 2, 9, 4, "", api.ErrRuler},
		{example, b, 2, 3, -1, "", api.ErrRuler},
	}
	for _, c := range cases {
		if got, err := rule.Cut([]byte(c.text), c.r, c.lo, c.hi, c.m); string(got) != c.want || err != c.err {
			t.Errorf("Cut(% x, %d, %d, %d, %d) is % x, %d, want % x, %d", c.text, c.r, c.lo, c.hi, c.m, got, err, c.want, c.err)
		}
	}
}

// Every two places of every ruler in every mode, those directly beyond both ends, and those the wrong way round.
func TestP6_5EveryTwoPlacesOfShortTexts(t *testing.T) {
	hold := func(b []byte) {
		m := modelOf(b)
		for _, r := range rulers {
			for lo := -1; lo <= m.size(r)+1; lo++ {
				for hi := -1; hi <= m.size(r)+1; hi++ {
					for _, mode := range modes {
						m.holdCut(t, r, lo, hi, mode)
					}
				}
			}
		}
	}
	texts(0, nil, hold)
	texts(1, edgeBytes, hold)
	texts(2, fewBytes, hold)
	for n := 3; n <= 5; n++ {
		texts(n, leastBytes[1:], hold)
	}
	for seed := range uint32(400) {
		hold(mixed(6, seed, leastBytes))
	}
	for _, s := range []string{example, "a\xf0\x9f\x98\x80\xf0\x9f\x98\x80b", "\xe2\x82\xac\xc3\xa9\xff", "\xf0\x9f\x98\xf0\x9f\x98\x80\x80"} {
		hold([]byte(s))
	}
}

func TestP6_5ErrorsInTheirOrder(t *testing.T) {
	m := modelOf([]byte(example))
	places := append([]int{0, 1, 2, 3, 5, 6, 7, 8, 9}, extremes...)
	for _, lo := range places {
		for _, hi := range places {
			for _, r := range append(slices.Clone(rulers), noRulers...) {
				for _, mode := range append(slices.Clone(modes), noModes...) {
					m.holdCut(t, r, lo, hi, mode)
				}
			}
		}
	}
}

// to is To where it has no error.
func to(t *testing.T, b []byte, from api.Ruler, place int, by api.Ruler, mode api.Mode) int {
	t.Helper()
	n, err := rule.To(b, from, place, by, mode)
	if err != api.OK {
		t.Fatalf("To(% x, %d, %d, %d, %d): %d", b, from, place, by, mode, err)
	}
	return n
}

func table(t *testing.T, b []byte, r api.Ruler) []int {
	t.Helper()
	l, err := rule.Table(b, r)
	if err != api.OK {
		t.Fatalf("Table(% x, %d): %d", b, r, err)
	}
	return l
}

func size(t *testing.T, b []byte, r api.Ruler) int {
	t.Helper()
	n, err := rule.Size(b, r)
	if err != api.OK {
		t.Fatalf("Size(% x, %d): %d", b, r, err)
	}
	return n
}

// The tables are equally long, rise, and mean the same places; there and back at an edge is the edge itself, in every mode.
func TestP6_6TablesAgree(t *testing.T) {
	shortTexts(func(b []byte) {
		if len(b) > 5 {
			return
		}
		for _, r := range rulers {
			own := table(t, b, r)
			for _, other := range rulers {
				theirs := table(t, b, other)
				if len(own) != len(theirs) {
					t.Fatalf("% x: %d edges by %d, %d by %d", b, len(own), r, len(theirs), other)
				}
				for i, place := range own {
					if i > 0 && place <= own[i-1] {
						t.Fatalf("Table(% x, %d) is %v", b, r, own)
					}
					for _, mode := range modes {
						there := to(t, b, r, place, other, mode)
						if back := to(t, b, other, there, r, mode); there != theirs[i] || back != place {
							t.Fatalf("% x: %d by %d is %d by %d, want %d; back it is %d", b, place, r, there, other, theirs[i], back)
						}
					}
				}
			}
			if last := own[len(own)-1]; last != size(t, b, r) {
				t.Fatalf("% x: the last edge by %d is %d, the size %d", b, r, last, size(t, b, r))
			}
		}
	})
}

// Down and Up are the edges on both sides of a place, and of two places in order the answers are in order.
func TestP6_6BothSidesInOrder(t *testing.T) {
	hold := func(b []byte) {
		for _, from := range rulers {
			edges := table(t, b, from)
			for _, by := range rulers {
				lastDown, lastUp := 0, 0
				for place := 0; place <= size(t, b, from); place++ {
					down, up := to(t, b, from, place, by, api.Down), to(t, b, from, place, by, api.Up)
					if down < lastDown || up < lastUp {
						t.Fatalf("% x by %d: at %d down %d, up %d, but ahead of it %d and %d", b, from, place, down, up, lastDown, lastUp)
					}
					lastDown, lastUp = down, up
					if rule.Edge(b, from, place) != slices.Contains(edges, place) || rule.Edge(b, from, place) != (down == up) {
						t.Fatalf("% x by %d: at %d down %d, up %d, but Edge is %v, and the edges are %v", b, from, place, down, up, rule.Edge(b, from, place), edges)
					}
					holdSides(t, b, from, place, by, down, up)
				}
			}
		}
	}
	for n := range 6 {
		texts(n, leastBytes[1:], hold)
	}
	for seed := range uint32(100) {
		hold(mixed(12, seed, edgeBytes))
		hold(mixed(9, seed, leastBytes))
	}
}

// holdSides: Exact answers as Down and Up do at an edge, and else ErrInside; else one step stands between the two, around the place.
func holdSides(t *testing.T, b []byte, from api.Ruler, place int, by api.Ruler, down, up int) {
	t.Helper()
	exact, err := rule.To(b, from, place, by, api.Exact)
	if down == up {
		if exact != down || err != api.OK {
			t.Fatalf("% x: at the edge %d by %d Exact is %d, %d, but Down and Up %d", b, place, from, exact, err, down)
		}
		return
	}
	ahead, behind := to(t, b, by, down, from, api.Exact), to(t, b, by, up, from, api.Exact)
	steps := to(t, b, by, up, api.Runes, api.Exact) - to(t, b, by, down, api.Runes, api.Exact)
	if exact != 0 || err != api.ErrInside || ahead >= place || place >= behind || steps != 1 {
		t.Fatalf("% x: %d by %d is Exact %d, %d; Down %d and Up %d by it, %d steps between them", b, place, from, exact, err, ahead, behind, steps)
	}
}

// Bytes cut at edges have the steps that stood between these, and the sizes add up by every ruler.
func TestP6_7SizesOfCutsAddUp(t *testing.T) {
	hold := func(b []byte) {
		m := modelOf(b)
		n := len(m.steps)
		for _, r := range rulers {
			for i := 0; i <= n; i++ {
				for j := i; j <= n; j++ {
					mid := cut(t, b, r, m.tables[r][i], m.tables[r][j])
					if got := modelOf(mid).steps; !slices.Equal(got, m.steps[i:j]) {
						t.Fatalf("% x by %d from edge %d to %d: the steps % x", b, r, i, j, got)
					}
					ahead, behind := cut(t, b, r, 0, m.tables[r][i]), cut(t, b, r, m.tables[r][j], m.size(r))
					for _, by := range rulers {
						if size(t, ahead, by)+size(t, mid, by)+size(t, behind, by) != size(t, b, by) {
							t.Fatalf("% x cut by %d at edges %d and %d: the sizes by %d do not add up", b, r, i, j, by)
						}
						if size(t, mid, by) != m.tables[by][j]-m.tables[by][i] {
							t.Fatalf("% x by %d from edge %d to %d: %d by %d", b, r, i, j, size(t, mid, by), by)
						}
					}
				}
			}
		}
	}
	for n := range 5 {
		texts(n, leastBytes, hold)
	}
	for seed := range uint32(150) {
		hold(mixed(6, seed, leastBytes))
		hold(mixed(8, seed, edgeBytes))
	}
	hold([]byte(example))
}

// cut is Cut at two edges: all modes answer one thing.
func cut(t *testing.T, b []byte, r api.Ruler, lo, hi int) []byte {
	t.Helper()
	out, err := rule.Cut(b, r, lo, hi, api.Exact)
	if err != api.OK {
		t.Fatalf("Cut(% x, %d, %d, %d, Exact): %d", b, r, lo, hi, err)
	}
	for _, mode := range []api.Mode{api.Down, api.Up} {
		if other, err := rule.Cut(b, r, lo, hi, mode); !bytes.Equal(other, out) || err != api.OK {
			t.Fatalf("Cut(% x, %d, %d, %d, %d) is % x, %d, but Exact % x", b, r, lo, hi, mode, other, err, out)
		}
	}
	return out
}

// Of bytes parted elsewhere the sizes do not add up (F1).
func TestP6_7SizesOfOtherPartsDoNot(t *testing.T) {
	b := []byte("\xf0\x9f\x98\x80")
	for place := 1; place < 4; place++ {
		for r, want := range map[api.Ruler]int{api.Bytes: 4, api.Runes: 4, api.Units: 4} {
			if sum := size(t, b[:place], r) + size(t, b[place:], r); sum != want {
				t.Errorf("parted at %d: %d by %d", place, sum, r)
			}
		}
	}
	if n := size(t, b, api.Runes); n != 1 {
		t.Errorf("one encoding has %d runes", n)
	}
}

// all is what every call answers of a text, told as a text.
func all(b []byte) string {
	var out strings.Builder
	tell := func(x ...any) { fmt.Fprintln(&out, x...) }
	for _, r := range rulers {
		n, err := rule.Size(b, r)
		tell(n, err)
		l, err := rule.Table(b, r)
		tell(l, err)
		for place := -1; place <= n+1; place++ {
			tell(rule.Edge(b, r, place))
			for _, mode := range modes {
				c, err := rule.Cut(b, r, min(1, place), place, mode)
				tell(c, err)
				for _, other := range rulers {
					n, err := rule.To(b, r, place, other, mode)
					tell(n, err)
				}
			}
		}
	}
	return out.String()
}

// R6 and R9: the bytes stay as they are, the room behind them is neither written nor read, and the same bytes answer the same.
func TestP2BytesStay(t *testing.T) {
	for n := range 20 {
		room := mixed(n+10, uint32(n), leastBytes)
		before := bytes.Clone(room)
		got := all(room[:n])
		if !bytes.Equal(room, before) {
			t.Fatalf("% x became % x", before, room)
		}
		if want := all(slices.Clip(bytes.Clone(before[:n]))); got != want {
			t.Fatalf("the room behind % x is seen", before[:n])
		}
		for i := n; i < len(room); i++ {
			room[i] = 0x90
		}
		if all(room[:n]) != got {
			t.Fatalf("the room behind % x is seen, once it is written over", before[:n])
		}
		for i := range room {
			room[i] = 0xF0
		}
		if all(room[:n]) != all(bytes.Repeat([]byte{0xF0}, n)) {
			t.Fatalf("when % x were written over, it was not seen", before[:n])
		}
	}
}

// scribble writes over a list and the room behind it.
func scribble[T any](l []T, x T) {
	l = l[:cap(l)]
	for i := range l {
		l[i] = x
	}
}

// R6: what Cut answers is new memory, the room behind it too.
func TestP2CutIsNewMemory(t *testing.T) {
	for _, r := range rulers {
		for lo := 0; lo <= 5; lo++ {
			for hi := lo; hi <= 5; hi++ {
				b := []byte(example + "room")[:len(example)]
				want, _ := modelOf([]byte(example)).cut(r, lo, hi, api.Down)
				one, _ := rule.Cut(b, r, lo, hi, api.Down)
				two, _ := rule.Cut(b, r, lo, hi, api.Down)
				scribble(one, '#')
				if got := string(b[:cap(b)][:len(example)+4]); got != example+"room" {
					t.Fatalf("when what Cut by %d from %d to %d answered was written over, the text became % x", r, lo, hi, got)
				}
				if string(two) != want {
					t.Fatalf("Cut by %d from %d to %d shares with another answer: % x", r, lo, hi, two)
				}
				scribble(b, '*')
				if string(two) != want {
					t.Fatalf("Cut by %d from %d to %d shares with the text: % x", r, lo, hi, two)
				}
			}
		}
	}
}

func TestP2TableIsNewMemory(t *testing.T) {
	b := []byte(example)
	for _, r := range rulers {
		want := modelOf(b).tables[r]
		one, two := table(t, b, r), table(t, b, r)
		scribble(one, -1)
		if !slices.Equal(two, want) || !slices.Equal(table(t, b, r), want) || size(t, b, r) != want[len(want)-1] {
			t.Errorf("when a table by %d was written over, another became %v", r, two)
		}
	}
}

// A great text: what is told of places deep in it is right, too.
func TestP3GreatText(t *testing.T) {
	const times = 1 << 17
	b := bytes.Repeat([]byte(example), times)
	for i, one := range []int{8, 5, 6} {
		if n := size(t, b, rulers[i]); n != one*times {
			t.Errorf("the size by %d is %d, want %d", rulers[i], n, one*times)
		}
		if l := table(t, b, rulers[i]); len(l) != 5*times+1 || l[len(l)-1] != one*times {
			t.Errorf("the table by %d has %d edges", rulers[i], len(l))
		}
	}
	deep := times - 2
	for _, c := range []struct {
		from  api.Ruler
		place int
		to    api.Ruler
		m     api.Mode
		want  int
	}{
		{api.Bytes, 8*deep + 3, api.Units, api.Down, 6*deep + 1},
		{api.Bytes, 8*deep + 3, api.Units, api.Up, 6*deep + 3},
		{api.Units, 6*deep + 2, api.Bytes, api.Down, 8*deep + 1},
		{api.Units, 6*deep + 2, api.Runes, api.Up, 5*deep + 2},
		{api.Runes, 5*deep + 4, api.Bytes, api.Exact, 8*deep + 7},
		{api.Runes, 5 * times, api.Bytes, api.Exact, 8 * times},
	} {
		if n := to(t, b, c.from, c.place, c.to, c.m); n != c.want {
			t.Errorf("%d by %d is %d by %d, want %d", c.place, c.from, n, c.to, c.want)
		}
	}
	if got := cut(t, b, api.Units, 6*deep, 6*deep+6); string(got) != example {
		t.Errorf("deep in the text stands % x", got)
	}
}
