package lines_test

import (
	"bytes"
	"fmt"
	"math"
	"slices"
	"strings"
	"testing"
	"unicode/utf8"

	"galley/api"
	"galley/lines"
)

const (
	least    = math.MinInt
	greatest = math.MaxInt
)

var (
	rulers = []api.Ruler{api.Bytes, api.Runes, api.Units}
	modes  = []api.Mode{api.Down, api.Up, api.Exact}
)

// noRulers and noModes are none of the three.
var (
	noRulers = []api.Ruler{0, 4, -1, -3, 5, 256 + 1, 1<<32 + 1, least, least + 1, greatest}
	noModes  = []api.Mode{0, 4, -1, -3, 5, 256 + 1, 1<<32 + 1, least, least + 1, greatest}
)

// extremes are lines, columns and places that no text here has.
var extremes = []int{least, least + 1, -1 << 32, -256, -2, -1, 100, 256, 1 << 31, 1 << 32, 1<<32 + 1, greatest - 1, greatest}

// example is the chapter's text.
const example = "a\r\n\xe2\x82\xacx\n\rb"

// model holds of a text, by the library and by the document's words, all edges, what each ruler counts ahead of each, and its lines.
type model struct {
	text   []byte
	counts [4][]int // counts[r][i]: edge i by the ruler r
	lines  []modelLine
}

type modelLine struct {
	start, content, next int
	first, last          int // the numbers of the edges that are its first and its last place
}

func modelOf(b []byte) *model {
	m := &model{text: b}
	at := [4]int{}
	put := func() {
		for _, r := range rulers {
			m.counts[r] = append(m.counts[r], at[r])
		}
	}
	put()
	for left := b; len(left) > 0; {
		r, n := utf8.DecodeRune(left)
		left = left[n:]
		at[api.Bytes] += n
		at[api.Runes]++
		at[api.Units]++
		if r >= 1<<16 {
			at[api.Units]++
		}
		put()
	}
	m.split()
	return m
}

// split finds the line ends from the last byte on, and by each byte's neighbours alone.
func (m *model) split() {
	is := func(i int, c byte) bool { return 0 <= i && i < len(m.text) && m.text[i] == c }
	put := func(content, next int) { m.lines = append(m.lines, modelLine{content: content, next: next}) }
	put(len(m.text), len(m.text))
	for i := len(m.text) - 1; i >= 0; i-- {
		switch {
		case is(i, '\r') && is(i+1, '\n'):
			put(i, i+2)
		case is(i, '\r'), is(i, '\n') && !is(i-1, '\r'):
			put(i, i+1)
		}
	}
	slices.Reverse(m.lines)
	for k := range m.lines {
		l := &m.lines[k]
		if k > 0 {
			l.start = m.lines[k-1].next
		}
		last := l.content
		if l.next == l.content+2 {
			last++
		}
		l.first = slices.Index(m.counts[api.Bytes], l.start)
		l.last = slices.Index(m.counts[api.Bytes], last)
	}
}

// col is what a ruler counts from the beginning of a line to an edge.
func (m *model) col(l modelLine, i int, r api.Ruler) int {
	return m.counts[r][i] - m.counts[r][l.first]
}

func (m *model) greatestCol(k int, r api.Ruler) int {
	return m.col(m.lines[k], m.lines[k].last, r)
}

// edge is the number of the last edge at a place or ahead of it.
func (m *model) edge(place int) int {
	i := 0
	for i+1 < len(m.counts[api.Bytes]) && m.counts[api.Bytes][i+1] <= place {
		i++
	}
	return i
}

// lineOf is the line whose place an edge is.
func (m *model) lineOf(i int) int {
	return slices.IndexFunc(m.lines, func(l modelLine) bool { return l.first <= i && i <= l.last })
}

func (m *model) where(place int) (api.Where, api.Errno) {
	if place < 0 || place > len(m.text) {
		return api.Where{}, api.ErrRange
	}
	i := m.edge(place)
	k := m.lineOf(i)
	l := m.lines[k]
	return api.Where{
		Bytes: m.counts[api.Bytes][i], Runes: m.counts[api.Runes][i], Units: m.counts[api.Units][i],
		Line:     k,
		ColBytes: m.col(l, i, api.Bytes), ColRunes: m.col(l, i, api.Runes), ColUnits: m.col(l, i, api.Units),
	}, api.OK
}

func (m *model) spot(place int, r api.Ruler) (api.Spot, api.Errno) {
	if !slices.Contains(rulers, r) {
		return api.Spot{}, api.ErrRuler
	}
	if place < 0 || place > len(m.text) {
		return api.Spot{}, api.ErrRange
	}
	i := m.edge(place)
	k := m.lineOf(i)
	return api.Spot{Line: k, Col: m.col(m.lines[k], i, r)}, api.OK
}

func (m *model) at(s api.Spot, r api.Ruler, mode api.Mode) (int, api.Errno) {
	if !slices.Contains(rulers, r) || !slices.Contains(modes, mode) {
		return 0, api.ErrRuler
	}
	if s.Line < 0 || s.Line >= len(m.lines) || s.Col < 0 {
		return 0, api.ErrRange
	}
	l := m.lines[s.Line]
	if s.Col > m.greatestCol(s.Line, r) {
		if mode == api.Exact {
			return 0, api.ErrRange
		}
		return l.content, api.OK
	}
	for i := l.first; i <= l.last; i++ {
		switch col := m.col(l, i, r); {
		case col == s.Col || col > s.Col && mode == api.Up:
			return m.counts[api.Bytes][i], api.OK
		case col > s.Col && mode == api.Down:
			return m.counts[api.Bytes][i-1], api.OK
		}
	}
	return 0, api.ErrInside
}

func (m *model) holdStarts(t *testing.T) {
	t.Helper()
	var want []int
	for _, l := range m.lines {
		want = append(want, l.start)
	}
	if got := lines.Starts(m.text); !slices.Equal(got, want) {
		t.Fatalf("Starts(% x) is %v, want %v", m.text, got, want)
	}
	if n := lines.Count(m.text); n != len(want) {
		t.Fatalf("Count(% x) is %d, want %d", m.text, n, len(want))
	}
}

func (m *model) holdLine(t *testing.T, k int) {
	t.Helper()
	want, wantErr := modelLine{}, api.ErrRange
	if 0 <= k && k < len(m.lines) {
		want, wantErr = m.lines[k], api.OK
	}
	start, content, next, err := lines.Line(m.text, k)
	if start != want.start || content != want.content || next != want.next || err != wantErr {
		t.Fatalf("Line(% x, %d) is %d, %d, %d, %d, want %d, %d, %d, %d", m.text, k, start, content, next, err, want.start, want.content, want.next, wantErr)
	}
}

func (m *model) holdWhere(t *testing.T, place int) {
	t.Helper()
	want, wantErr := m.where(place)
	if got, err := lines.Where(m.text, place); got != want || err != wantErr {
		t.Fatalf("Where(% x, %d) is %+v, %d, want %+v, %d", m.text, place, got, err, want, wantErr)
	}
}

func (m *model) holdSpot(t *testing.T, place int, r api.Ruler) {
	t.Helper()
	want, wantErr := m.spot(place, r)
	if got, err := lines.Spot(m.text, place, r); got != want || err != wantErr {
		t.Fatalf("Spot(% x, %d, %d) is %v, %d, want %v, %d", m.text, place, r, got, err, want, wantErr)
	}
}

func (m *model) holdAt(t *testing.T, s api.Spot, r api.Ruler, mode api.Mode) {
	t.Helper()
	want, wantErr := m.at(s, r, mode)
	if got, err := lines.At(m.text, s, r, mode); got != want || err != wantErr {
		t.Fatalf("At(% x, %v, %d, %d) is %d, %d, want %d, %d", m.text, s, r, mode, got, err, want, wantErr)
	}
}

// holdAll: every line, place and column of every ruler in every mode, and those directly beyond both ends.
func (m *model) holdAll(t *testing.T) {
	t.Helper()
	m.holdStarts(t)
	for k := -1; k <= len(m.lines)+1; k++ {
		m.holdLine(t, k)
	}
	for place := -1; place <= len(m.text)+1; place++ {
		m.holdWhere(t, place)
		for _, r := range rulers {
			m.holdSpot(t, place, r)
		}
	}
	for k := -1; k <= len(m.lines); k++ {
		for _, r := range rulers {
			top := 0
			if 0 <= k && k < len(m.lines) {
				top = m.greatestCol(k, r)
			}
			for col := -1; col <= top+2; col++ {
				for _, mode := range modes {
					m.holdAt(t, api.Spot{Line: k, Col: col}, r, mode)
				}
			}
		}
	}
}

// edgeBytes: the line ends, the bytes beside them, the first and the last byte of each class, and those beside the narrower second ones.
var edgeBytes = []byte{
	0x00, 0x09, 0x0A, 0x0B, 0x0C, 0x0D, 0x0E, 0x41, 0x7F, 0x80, 0x85, 0x8A, 0x8D, 0x8F, 0x90, 0x9F, 0xA0, 0xAC, 0xBF, 0xC0, 0xC1, 0xC2, 0xC3, 0xDF,
	0xE0, 0xE1, 0xE2, 0xEC, 0xED, 0xEE, 0xEF, 0xF0, 0xF1, 0xF3, 0xF4, 0xF5, 0xFE, 0xFF,
}

// fewBytes: the line ends, and bytes by which the steps part, for longer texts.
var fewBytes = []byte{0x0A, 0x0D, 0x41, 0x8F, 0x90, 0xA0, 0xC2, 0xE2, 0xED, 0xF0, 0xF4}

// leastBytes: the line ends, and bytes out of which encodings of each length can still be made.
var leastBytes = []byte{0x0A, 0x0D, 0x41, 0x90, 0xC2, 0xE2, 0xF0}

// texts calls f with every text of n bytes out of some.
func texts(n int, some []byte, f func(b []byte)) {
	b := make([]byte, n)
	var fill func(i int)
	fill = func(i int) {
		if i == n {
			f(b)
			return
		}
		for _, x := range some {
			b[i] = x
			fill(i + 1)
		}
	}
	fill(0)
}

// shortTexts calls f with texts of no byte up to six bytes.
func shortTexts(f func(b []byte)) {
	every := make([]byte, 256)
	for i := range every {
		every[i] = byte(i)
	}
	texts(0, nil, f)
	texts(1, every, f)
	texts(2, edgeBytes, f)
	texts(3, fewBytes, f)
	texts(4, leastBytes, f)
	texts(5, leastBytes, f)
	texts(6, []byte{0x0A, 0x0D, 0x41, 0x90, 0xF0}, f)
}

// fewTexts calls f with those short texts by which lines and steps part.
func fewTexts(f func(b []byte)) {
	texts(0, nil, f)
	for n := 1; n <= 3; n++ {
		texts(n, leastBytes, f)
	}
	texts(4, []byte{0x0A, 0x0D, 0x41, 0x90, 0xF0}, f)
	texts(5, []byte{0x0A, 0x0D, 0x90, 0xF0}, f)
	for seed := range uint32(300) {
		f(mixed(6+int(seed%7), seed, leastBytes))
	}
	for _, s := range written {
		f([]byte(s))
	}
}

// written are texts with lines of every kind.
var written = []string{
	example, "a\U0001F600\xe2\x82\r\n\U0001F600\U0001F600", "\r\r\n\n\r", "\u20ac\r\n\r\nx", "\n\u00e9\xff\n", "\r\n", "\xf0\x9f\x98\r\n\x80", "ab\rc\nd\r\n\xe2\x82\xac",
}

// mixed are n bytes out of some, the same each time, that follow no short rule.
func mixed(n int, seed uint32, some []byte) []byte {
	out := make([]byte, n)
	for i := range out {
		seed = seed*1664525 + 1013904223
		out[i] = some[int(seed>>16)%len(some)]
	}
	return out
}

// pieces: encodings of one to four bytes, the first and the last of each length, and bytes that are none, but nearly.
var pieces = []string{
	"", "\x00", "a", "\x7f", "\xc2\x80", "\xc2\x85", "\xc2\x8a", "\xdf\xbf", "\xe0\xa0\x80", "\xe2\x80\xa8", "\xe2\x82\xac", "\xef\xbf\xbd", "\xef\xbf\xbf",
	"\xf0\x90\x80\x80", "\xf0\x9f\x98\x80", "\xf4\x8f\xbf\xbf",
	"\x80", "\xbf", "\xc0\x80", "\xc2", "\xe2\x82", "\xed\xa0\x80", "\xf0\x9f\x98", "\xf0\x9f", "\xf4\x90\x80\x80", "\xff",
}

var ends = []string{"\n", "\r", "\r\n", "\r\r\n", "\r\n\n", "\n\r", "\n\r\n", "\r\n\r\n", "\r\r", "\n\n"}

func TestP7_1StartsExamples(t *testing.T) {
	cases := []struct {
		text string
		want []int
	}{
		{example, []int{0, 3, 8, 9}},
		{"", []int{0}},
		{"a", []int{0}},
		{"hello", []int{0}},
		{"\n", []int{0, 1}},
		{"\r", []int{0, 1}},
		{"\r\n", []int{0, 2}},
		{"\n\r", []int{0, 1, 2}},
		{"\r\r", []int{0, 1, 2}},
		{"\n\n", []int{0, 1, 2}},
		{"\r\r\n", []int{0, 1, 3}},
		{"\r\n\n", []int{0, 2, 3}},
		{"\r\n\r\n", []int{0, 2, 4}},
		{"\r\r\n\n", []int{0, 1, 3, 4}},
		{"\rx\n", []int{0, 1, 3}},
		{"a\nb\rc\r\nd", []int{0, 2, 4, 7}},
		{"a\n", []int{0, 2}},
		{"a\r\n", []int{0, 3}},
		{"\xe2\n\x82", []int{0, 2}},
		{"\xff\r\n\xff", []int{0, 3}},

		// Other runes at which some begin a line.
		{"a\x0b\x0cb\xc2\x85c\xe2\x80\xa8d\xe2\x80\xa9e", []int{0}},
	}
	for _, c := range cases {
		if got := lines.Starts([]byte(c.text)); !slices.Equal(got, c.want) {
			t.Errorf("Starts(% x) is %v, want %v", c.text, got, c.want)
		}
		if n := lines.Count([]byte(c.text)); n != len(c.want) {
			t.Errorf("Count(% x) is %d, want %d", c.text, n, len(c.want))
		}
	}
	if got := lines.Starts(nil); !slices.Equal(got, []int{0}) || lines.Count(nil) != 1 {
		t.Errorf("Starts(nil) is %v, Count(nil) is %d", got, lines.Count(nil))
	}
}

func TestP7_1LineExamples(t *testing.T) {
	cases := []struct {
		text                    string
		k, start, content, next int
		err                     api.Errno
	}{
		{example, 0, 0, 1, 3, api.OK},
		{example, 1, 3, 7, 8, api.OK},
		{example, 2, 8, 8, 9, api.OK},
		{example, 3, 9, 10, 10, api.OK},
		{example, 4, 0, 0, 0, api.ErrRange},
		{example, -1, 0, 0, 0, api.ErrRange},
		{"", 0, 0, 0, 0, api.OK},
		{"", 1, 0, 0, 0, api.ErrRange},
		{"", -1, 0, 0, 0, api.ErrRange},
		{"abc", 0, 0, 3, 3, api.OK},
		{"abc", 1, 0, 0, 0, api.ErrRange},
		{"abc\n", 0, 0, 3, 4, api.OK},
		{"abc\n", 1, 4, 4, 4, api.OK},
		{"\r\n", 0, 0, 0, 2, api.OK},
		{"\r\n", 1, 2, 2, 2, api.OK},
		{"\r\r\n", 1, 1, 1, 3, api.OK},
		{"\n\r", 1, 1, 1, 2, api.OK},
		{"\n\r", 2, 2, 2, 2, api.OK},
	}
	for _, c := range cases {
		start, content, next, err := lines.Line([]byte(c.text), c.k)
		if start != c.start || content != c.content || next != c.next || err != c.err {
			t.Errorf("Line(% x, %d) is %d, %d, %d, %d, want %d, %d, %d, %d", c.text, c.k, start, content, next, err, c.start, c.content, c.next, c.err)
		}
	}
}

func TestP7_1WhereExamples(t *testing.T) {
	cases := []struct {
		text  string
		place int
		want  api.Where
		err   api.Errno
	}{
		{example, 7, api.Where{Bytes: 7, Runes: 5, Units: 5, Line: 1, ColBytes: 4, ColRunes: 2, ColUnits: 2}, api.OK},
		{example, 2, api.Where{Bytes: 2, Runes: 2, Units: 2, Line: 0, ColBytes: 2, ColRunes: 2, ColUnits: 2}, api.OK},
		{example, 3, api.Where{Bytes: 3, Runes: 3, Units: 3, Line: 1}, api.OK},
		{example, 4, api.Where{Bytes: 3, Runes: 3, Units: 3, Line: 1}, api.OK},
		{example, 5, api.Where{Bytes: 3, Runes: 3, Units: 3, Line: 1}, api.OK},
		{example, 6, api.Where{Bytes: 6, Runes: 4, Units: 4, Line: 1, ColBytes: 3, ColRunes: 1, ColUnits: 1}, api.OK},
		{example, 8, api.Where{Bytes: 8, Runes: 6, Units: 6, Line: 2}, api.OK},
		{example, 9, api.Where{Bytes: 9, Runes: 7, Units: 7, Line: 3}, api.OK},
		{example, 10, api.Where{Bytes: 10, Runes: 8, Units: 8, Line: 3, ColBytes: 1, ColRunes: 1, ColUnits: 1}, api.OK},
		{example, 11, api.Where{}, api.ErrRange},
		{example, -1, api.Where{}, api.ErrRange},
		{example, 0, api.Where{}, api.OK},
		{"", 0, api.Where{}, api.OK},
		{"", 1, api.Where{}, api.ErrRange},
		{"", -1, api.Where{}, api.ErrRange},
		{"\U0001F600\n\U0001F600", 9, api.Where{Bytes: 9, Runes: 3, Units: 5, Line: 1, ColBytes: 4, ColRunes: 1, ColUnits: 2}, api.OK},
		{"\U0001F600\n\U0001F600", 8, api.Where{Bytes: 5, Runes: 2, Units: 3, Line: 1}, api.OK},
		{"\xe2\x82\r\n\xff", 5, api.Where{Bytes: 5, Runes: 5, Units: 5, Line: 1, ColBytes: 1, ColRunes: 1, ColUnits: 1}, api.OK},
		{"\r\n", 1, api.Where{Bytes: 1, Runes: 1, Units: 1, Line: 0, ColBytes: 1, ColRunes: 1, ColUnits: 1}, api.OK},
		{"\r\n", 2, api.Where{Bytes: 2, Runes: 2, Units: 2, Line: 1}, api.OK},
		{"\n\r", 1, api.Where{Bytes: 1, Runes: 1, Units: 1, Line: 1}, api.OK},
	}
	for _, c := range cases {
		if got, err := lines.Where([]byte(c.text), c.place); got != c.want || err != c.err {
			t.Errorf("Where(% x, %d) is %+v, %d, want %+v, %d", c.text, c.place, got, err, c.want, c.err)
		}
	}
}

func TestP7_1AtExamples(t *testing.T) {
	const b, r, u = api.Bytes, api.Runes, api.Units
	const face = "\U0001F600"
	cases := []struct {
		text      string
		line, col int
		r         api.Ruler
		m         api.Mode
		want      int
		err       api.Errno
	}{
		{example, 0, 2, r, api.Exact, 2, api.OK},
		{example, 0, 3, r, api.Down, 1, api.OK},
		{example, 0, 3, r, api.Up, 1, api.OK},
		{example, 0, 3, r, api.Exact, 0, api.ErrRange},
		{example, 1, 1, b, api.Down, 3, api.OK},
		{example, 1, 1, b, api.Up, 6, api.OK},
		{example, 1, 1, b, api.Exact, 0, api.ErrInside},
		{example, 1, 1, u, api.Exact, 6, api.OK},
		{example, 3, 9, u, api.Up, 10, api.OK},
		{example, 4, 0, b, api.Down, 0, api.ErrRange},
		{example, 0, -1, b, api.Down, 0, api.ErrRange},
		{example, 0, 0, 0, api.Down, 0, api.ErrRuler},
		{example, 0, 0, b, 4, 0, api.ErrRuler},
		{"", 0, 5, b, api.Down, 0, api.OK},
		{face, 0, 1, u, api.Down, 0, api.OK},
		{face, 0, 1, u, api.Up, 4, api.OK},
		{face, 0, 1, u, api.Exact, 0, api.ErrInside},

		// In a line that ends in CR LF: the content's end, the place between, and what is above it.
		{example, 0, 1, b, api.Exact, 1, api.OK},
		{example, 0, 2, b, api.Down, 2, api.OK},
		{example, 0, 2, u, api.Up, 2, api.OK},
		{example, 0, greatest, u, api.Up, 1, api.OK},
		{"\r\n", 0, 1, b, api.Exact, 1, api.OK},
		{"\r\n", 0, 2, b, api.Down, 0, api.OK},
		{"\r\n", 1, 0, b, api.Exact, 2, api.OK},
		{face + "\r\n", 0, 3, u, api.Exact, 5, api.OK},
		{face + "\r\n", 0, 4, u, api.Up, 4, api.OK},
		{face + "\r\n", 0, 4, u, api.Exact, 0, api.ErrRange},

		// In one that ends in a single byte, or with the text, there is no place behind the content.
		{example, 1, 4, b, api.Exact, 7, api.OK},
		{example, 1, 5, b, api.Exact, 0, api.ErrRange},
		{example, 1, 5, b, api.Up, 7, api.OK},
		{example, 2, 0, r, api.Exact, 8, api.OK},
		{example, 2, 1, r, api.Exact, 0, api.ErrRange},
		{example, 2, 1, r, api.Up, 8, api.OK},
		{example, 3, 1, u, api.Exact, 10, api.OK},
		{example, 3, 2, u, api.Exact, 0, api.ErrRange},

		// A pair, or an encoding, with which the content ends: the column within it is not above the greatest.
		{"a\n" + face + "\n", 1, 1, u, api.Down, 2, api.OK},
		{"a\n" + face + "\n", 1, 1, u, api.Up, 6, api.OK},
		{"a\n" + face + "\n", 1, 1, u, api.Exact, 0, api.ErrInside},
		{"a\n" + face + "\n", 1, 3, b, api.Down, 2, api.OK},
		{"a\n" + face + "\n", 1, 3, b, api.Up, 6, api.OK},
		{"a\n" + face + "\n", 1, 1, r, api.Exact, 6, api.OK},
		{"a\n" + face + "\n", 1, 3, u, api.Down, 6, api.OK},

		// Bad bytes count one each.
		{"\xf0\x9f\x98\n\x80", 0, 1, b, api.Exact, 1, api.OK},
		{"\xf0\x9f\x98\n\x80", 0, 2, u, api.Exact, 2, api.OK},
		{"\xf0\x9f\x98\n\x80", 1, 1, u, api.Exact, 5, api.OK},
	}
	for _, c := range cases {
		s := api.Spot{Line: c.line, Col: c.col}
		if got, err := lines.At([]byte(c.text), s, c.r, c.m); got != c.want || err != c.err {
			t.Errorf("At(% x, %v, %d, %d) is %d, %d, want %d, %d", c.text, s, c.r, c.m, got, err, c.want, c.err)
		}
	}
}

func TestP7_1SpotExamples(t *testing.T) {
	cases := []struct {
		text      string
		place     int
		r         api.Ruler
		line, col int
		err       api.Errno
	}{
		{example, 8, api.Bytes, 2, 0, api.OK},
		{example, 7, api.Runes, 1, 2, api.OK},
		{example, 4, api.Units, 1, 0, api.OK},
		{example, 7, api.Bytes, 1, 4, api.OK},
		{example, 5, api.Bytes, 1, 0, api.OK},
		{example, 2, api.Bytes, 0, 2, api.OK},
		{example, 10, api.Units, 3, 1, api.OK},
		{example, 11, api.Bytes, 0, 0, api.ErrRange},
		{example, -1, api.Units, 0, 0, api.ErrRange},
		{example, 0, 0, 0, 0, api.ErrRuler},
		{example, 11, 4, 0, 0, api.ErrRuler},
		{example, -1, 0, 0, 0, api.ErrRuler},
		{"", 0, api.Runes, 0, 0, api.OK},
		{"", 1, api.Runes, 0, 0, api.ErrRange},
		{"\n\U0001F600", 5, api.Units, 1, 2, api.OK},
		{"\n\U0001F600", 5, api.Runes, 1, 1, api.OK},
		{"\n\U0001F600", 5, api.Bytes, 1, 4, api.OK},
		{"\n\U0001F600", 3, api.Units, 1, 0, api.OK},
	}
	for _, c := range cases {
		want := api.Spot{Line: c.line, Col: c.col}
		if got, err := lines.Spot([]byte(c.text), c.place, c.r); got != want || err != c.err {
			t.Errorf("Spot(% x, %d, %d) is %v, %d, want %v, %d", c.text, c.place, c.r, got, err, want, c.err)
		}
	}
}

func TestP7_1EveryShortText(t *testing.T) {
	shortTexts(func(b []byte) { modelOf(b).holdAll(t) })
}

// Up to six line ends of every kind beside one another, with and without something between them.
func TestP7_1LineEndsBesideOneAnother(t *testing.T) {
	some := []string{"\n", "\r", "\r\n", "\xc3\xa9"}
	var fill func(text string, left int)
	fill = func(text string, left int) {
		modelOf([]byte(text)).holdStarts(t)
		if left < 3 {
			modelOf([]byte(text)).holdAll(t)
		}
		if left == 0 {
			return
		}
		for _, s := range some {
			fill(text+s, left-1)
		}
	}
	fill("", 5)
}

func TestP7_1EncodingsBesideLineEnds(t *testing.T) {
	for _, ahead := range pieces {
		for _, behind := range pieces {
			for _, end := range ends[:3] {
				modelOf([]byte(ahead + end + behind)).holdAll(t)
			}
		}
		for _, end := range ends {
			modelOf([]byte(end + ahead + end)).holdAll(t)
			modelOf([]byte(ahead + ahead + end + end + ahead)).holdAll(t)
		}
	}
}

func TestP7_1LongTexts(t *testing.T) {
	for seed := range uint32(8) {
		for _, some := range [][]byte{edgeBytes, fewBytes, leastBytes} {
			modelOf(mixed(20+int(seed)*10, seed, some)).holdAll(t)
			modelOf(mixed(5000, seed, some)).holdStarts(t)
		}
	}
	for _, s := range written {
		modelOf([]byte(strings.Repeat(s, 8))).holdAll(t)
	}
}

// A text with more lines, and a line with more columns, than a number of 16 bits tells.
func TestP7_1GreatText(t *testing.T) {
	const n = 70000
	one := "\U0001F600\xff\r\n"
	b := []byte(strings.Repeat(one, n))
	starts := lines.Starts(b)
	if len(starts) != n+1 || lines.Count(b) != n+1 {
		t.Fatalf("%d starts, Count is %d", len(starts), lines.Count(b))
	}
	for k, start := range starts {
		if start != k*len(one) {
			t.Fatalf("line %d begins at %d", k, start)
		}
	}
	for _, k := range []int{0, 1, 255, 256, 32767, 32768, 65535, 65536, n - 1} {
		start := k * len(one)
		if s, c, next, err := lines.Line(b, k); s != start || c != start+5 || next != start+7 || err != api.OK {
			t.Errorf("line %d is %d, %d, %d, %d", k, s, c, next, err)
		}
		want := api.Where{Bytes: start + 6, Runes: 4*k + 3, Units: 5*k + 4, Line: k, ColBytes: 6, ColRunes: 3, ColUnits: 4}
		if got, err := lines.Where(b, start+6); got != want || err != api.OK {
			t.Errorf("Where(%d) is %+v, %d", start+6, got, err)
		}
		if got, err := lines.At(b, api.Spot{Line: k, Col: 3}, api.Units, api.Exact); got != start+5 || err != api.OK {
			t.Errorf("At({%d 3}) is %d, %d", k, got, err)
		}
		if got, err := lines.Spot(b, start+5, api.Units); got != (api.Spot{Line: k, Col: 3}) || err != api.OK {
			t.Errorf("Spot(%d) is %v, %d", start+5, got, err)
		}
	}
	long := []byte("\n" + strings.Repeat("\U0001F600", n))
	if got, err := lines.At(long, api.Spot{Line: 1, Col: 2 * n}, api.Units, api.Exact); got != 1+4*n || err != api.OK {
		t.Errorf("At({1 %d}) is %d, %d", 2*n, got, err)
	}
	if got, err := lines.Spot(long, 4*n, api.Bytes); got != (api.Spot{Line: 1, Col: 4*n - 4}) || err != api.OK {
		t.Errorf("Spot(%d) is %v, %d", 4*n, got, err)
	}
}

// Numbers that are far from every line, column and place, with rulers and modes that are some and that are none.
func TestP7_1ErrorsInTheirOrder(t *testing.T) {
	for _, text := range []string{"", "\xf0\x9f\x98\x80", example} {
		m := modelOf([]byte(text))
		numbers := append([]int{0, 1, 2, 3, 4, 9, 10, 11}, extremes...)
		for _, k := range numbers {
			m.holdLine(t, k)
			m.holdWhere(t, k)
			for _, r := range append(slices.Clone(rulers), noRulers...) {
				m.holdSpot(t, k, r)
				for _, col := range numbers {
					for _, mode := range append(slices.Clone(modes), noModes...) {
						m.holdAt(t, api.Spot{Line: k, Col: col}, r, mode)
					}
				}
			}
		}
	}
}

// A column far above the greatest goes to the content's end of each line, and a wrong line comes ahead of it.
func TestP7_1ColumnsFarAbove(t *testing.T) {
	for _, text := range written {
		m := modelOf([]byte(text))
		for k, l := range m.lines {
			for _, r := range rulers {
				for _, above := range []int{1, 2, 3, 255, 1 << 31, 1 << 32, greatest - m.greatestCol(k, r)} {
					s := api.Spot{Line: k, Col: m.greatestCol(k, r) + above}
					for _, mode := range []api.Mode{api.Down, api.Up} {
						if got, err := lines.At(m.text, s, r, mode); got != l.content || err != api.OK {
							t.Errorf("At(% x, %v, %d, %d) is %d, %d, want %d", text, s, r, mode, got, err, l.content)
						}
					}
					if got, err := lines.At(m.text, s, r, api.Exact); got != 0 || err != api.ErrRange {
						t.Errorf("At(% x, %v, %d, Exact) is %d, %d", text, s, r, got, err)
					}
				}
			}
		}
	}
}

// line is Line where it has no error.
func line(t *testing.T, b []byte, k int) (start, content, next int) {
	t.Helper()
	start, content, next, err := lines.Line(b, k)
	if err != api.OK {
		t.Fatalf("Line(% x, %d): %d", b, k, err)
	}
	return start, content, next
}

func where(t *testing.T, b []byte, place int) api.Where {
	t.Helper()
	w, err := lines.Where(b, place)
	if err != api.OK {
		t.Fatalf("Where(% x, %d): %d", b, place, err)
	}
	return w
}

func spot(t *testing.T, b []byte, place int, r api.Ruler) api.Spot {
	t.Helper()
	s, err := lines.Spot(b, place, r)
	if err != api.OK {
		t.Fatalf("Spot(% x, %d, %d): %d", b, place, r, err)
	}
	return s
}

func at(t *testing.T, b []byte, s api.Spot, r api.Ruler, mode api.Mode) int {
	t.Helper()
	place, err := lines.At(b, s, r, mode)
	if err != api.OK {
		t.Fatalf("At(% x, %v, %d, %d): %d", b, s, r, mode, err)
	}
	return place
}

// edges are those of a text by bytes, by the library.
func edges(b []byte) []int {
	out := []int{0}
	for at := 0; at < len(b); {
		_, n := utf8.DecodeRune(b[at:])
		at += n
		out = append(out, at)
	}
	return out
}

// count is what a ruler counts of bytes, by the library.
func count(b []byte, r api.Ruler) int {
	switch r {
	case api.Bytes:
		return len(b)
	case api.Runes:
		return utf8.RuneCount(b)
	}
	n := 0
	for _, x := range string(b) {
		n++
		if x > 0xFFFF {
			n++
		}
	}
	return n
}

func TestP7_2LinesOneBehindTheOther(t *testing.T) {
	shortTexts(func(b []byte) {
		starts, last := lines.Starts(b), lines.Count(b)-1
		if len(starts) != last+1 || starts[0] != 0 {
			t.Fatalf("% x: Starts %v, Count %d", b, starts, last+1)
		}
		for k := range starts {
			start, content, next := line(t, b, k)
			if start != starts[k] || content < start || next < content {
				t.Fatalf("% x: line %d is %d, %d, %d, Starts %v", b, k, start, content, next, starts)
			}
			if bytes.ContainsAny(b[start:content], "\r\n") {
				t.Fatalf("% x: the content of line %d, %d to %d, has a line end", b, k, start, content)
			}
			if k < last {
				if end := string(b[content:next]); starts[k+1] != next || end != "\r\n" && end != "\r" && end != "\n" {
					t.Fatalf("% x: line %d ends by % x, and %d begins at %d", b, k, end, k+1, starts[k+1])
				}
			} else if content != len(b) || next != len(b) {
				t.Fatalf("% x: the last line is %d, %d, %d", b, start, content, next)
			}
			if end := next - content; end > 2 || (end == 0) != (k == last) {
				t.Fatalf("% x: the end of line %d of %d has %d bytes", b, k, last+1, end)
			}
		}
		for i := range b {
			if w := where(t, b, i); b[i] == '\n' && i > 0 && b[i-1] == '\r' && w.ColBytes == 0 {
				t.Fatalf("% x: a line begins between CR and LF, at %d", b, i)
			}
		}
	})
}

// Each edge is a place of just one line: of the last one that begins at it or ahead of it.
func TestP7_2EachEdgeInOneLine(t *testing.T) {
	fewTexts(func(b []byte) {
		for _, edge := range edges(b) {
			holders, lastBegun := []int{}, 0
			for k := range lines.Count(b) {
				start, content, next := line(t, b, k)
				if start <= edge && (edge <= content || edge == content+1 && next == content+2) {
					holders = append(holders, k)
				}
				if start <= edge {
					lastBegun = k
				}
			}
			got := where(t, b, edge).Line
			if len(holders) != 1 || holders[0] != got || lastBegun != got {
				t.Fatalf("% x: %d is a place of the lines %v, the last that begins is %d, Where tells %d", b, edge, holders, lastBegun, got)
			}
			for _, r := range rulers {
				if s := spot(t, b, edge, r); s.Line != got {
					t.Fatalf("% x: %d is in line %d by Where, %d by Spot", b, edge, got, s.Line)
				}
			}
		}
	})
}

func TestP7_3AtOfSpotIsTheEdge(t *testing.T) {
	fewTexts(func(b []byte) {
		for _, edge := range edges(b) {
			for _, r := range rulers {
				s := spot(t, b, edge, r)
				for _, mode := range modes {
					if got := at(t, b, s, r, mode); got != edge {
						t.Fatalf("% x: %d is %v by %d, and back with %d it is %d", b, edge, s, r, mode, got)
					}
				}
			}
		}
	})
}

func TestP7_3SpotOfAtIsTheSpot(t *testing.T) {
	fewTexts(func(b []byte) {
		spots := 0
		for k := range lines.Count(b) {
			for _, r := range rulers {
				for col := 0; col <= len(b)+1; col++ {
					want := api.Spot{Line: k, Col: col}
					place, err := lines.At(b, want, r, api.Exact)
					if err != api.OK {
						continue
					}
					spots++
					if got := spot(t, b, place, r); got != want {
						t.Fatalf("% x: %v by %d is %d, and back it is %v", b, want, r, place, got)
					}
				}
			}
		}
		// As many columns are found as there are edges: none is left out.
		if want := len(rulers) * len(edges(b)); spots != want {
			t.Fatalf("% x: %d columns of edges, want %d", b, spots, want)
		}
	})
}

func TestP7_4ColumnsAreCountedFromTheBeginning(t *testing.T) {
	fewTexts(func(b []byte) {
		for _, edge := range edges(b) {
			w := where(t, b, edge)
			start, _, _ := line(t, b, w.Line)
			begin := where(t, b, start)
			want := api.Where{
				Bytes: edge, Runes: count(b[:edge], api.Runes), Units: count(b[:edge], api.Units),
				Line:     begin.Line,
				ColBytes: edge - start, ColRunes: count(b[start:edge], api.Runes), ColUnits: count(b[start:edge], api.Units),
			}
			if w != want {
				t.Fatalf("% x: Where(%d) is %+v, want %+v", b, edge, w, want)
			}
			if begin.Bytes != start || w.Bytes-w.ColBytes != start || w.Runes-w.ColRunes != begin.Runes || w.Units-w.ColUnits != begin.Units {
				t.Fatalf("% x: at %d %+v, but the line begins at %+v", b, edge, w, begin)
			}
			for r, col := range map[api.Ruler]int{api.Bytes: w.ColBytes, api.Runes: w.ColRunes, api.Units: w.ColUnits} {
				if s := spot(t, b, edge, r); s.Col != col {
					t.Fatalf("% x: at %d Where has the column %d by %d, Spot %d", b, edge, col, r, s.Col)
				}
			}
		}
	})
}

func TestP7_4LinesAndColumnsRise(t *testing.T) {
	fewTexts(func(b []byte) {
		last := api.Where{Line: 0, ColBytes: -1, ColRunes: -1, ColUnits: -1}
		for _, edge := range edges(b) {
			w := where(t, b, edge)
			if w.Line < last.Line {
				t.Fatalf("% x: at %d the line falls from %d to %d", b, edge, last.Line, w.Line)
			}
			if w.Line == last.Line && (w.ColBytes <= last.ColBytes || w.ColRunes <= last.ColRunes || w.ColUnits <= last.ColUnits) {
				t.Fatalf("% x: at %d the columns do not rise: %+v, then %+v", b, edge, last, w)
			}
			last = w
		}
	})
}

// A place that is inside stands where the last edge ahead of it does.
func TestP7_4PlacesInside(t *testing.T) {
	fewTexts(func(b []byte) {
		edge := 0
		for place := range len(b) + 1 {
			if slices.Contains(edges(b), place) {
				edge = place
			}
			if got, want := where(t, b, place), where(t, b, edge); got != want || got.Bytes != edge {
				t.Fatalf("% x: Where(%d) is %+v, of the edge %+v", b, place, got, want)
			}
			for _, r := range rulers {
				if got, want := spot(t, b, place, r), spot(t, b, edge, r); got != want {
					t.Fatalf("% x: Spot(%d, %d) is %v, of the edge %v", b, place, r, got, want)
				}
			}
		}
	})
}

func TestP7_5ModesAgree(t *testing.T) {
	fewTexts(func(b []byte) {
		for k := range lines.Count(b) {
			_, content, _ := line(t, b, k)
			for _, r := range rulers {
				for col := 0; col <= len(b)+2; col++ {
					s := api.Spot{Line: k, Col: col}
					down, up := at(t, b, s, r, api.Down), at(t, b, s, r, api.Up)
					exact, err := lines.At(b, s, r, api.Exact)
					switch {
					case err == api.OK && (down != exact || up != exact):
						t.Fatalf("% x: %v by %d is Down %d, Exact %d, Up %d", b, s, r, down, exact, up)
					case err == api.ErrInside && down >= up, err != api.OK && exact != 0:
						t.Fatalf("% x: %v by %d is Down %d, Up %d, Exact %d, %d", b, s, r, down, up, exact, err)
					case err == api.ErrRange && (down != content || up != content):
						t.Fatalf("% x: %v by %d is Down %d, Up %d, the content's end %d", b, s, r, down, up, content)
					}
				}
			}
		}
	})
}

// all is what every call answers of a text, told as a text.
func all(b []byte) string {
	var out strings.Builder
	tell := func(x ...any) { fmt.Fprintln(&out, x...) }
	tell(lines.Starts(b), lines.Count(b))
	for k := -1; k <= len(b)+1; k++ {
		start, content, next, err := lines.Line(b, k)
		tell(start, content, next, err)
		w, err := lines.Where(b, k)
		tell(w, err)
		for _, r := range rulers {
			s, err := lines.Spot(b, k, r)
			tell(s, err)
			for _, mode := range modes {
				for col := 0; col <= 3; col++ {
					place, err := lines.At(b, api.Spot{Line: k, Col: col}, r, mode)
					tell(place, err)
				}
			}
		}
	}
	return out.String()
}

// R6 and R9: the bytes stay as they are, the room behind them is neither written nor read, and the same bytes answer the same.
func TestP7_5BytesStay(t *testing.T) {
	for n := range 20 {
		for _, fill := range []byte{0x90, '\n', '\r'} {
			room := mixed(n+10, uint32(n), leastBytes)
			before := bytes.Clone(room)
			got := all(room[:n])
			if !bytes.Equal(room, before) {
				t.Fatalf("% x became % x", before, room)
			}
			if want := all(slices.Clip(bytes.Clone(before[:n]))); got != want {
				t.Fatalf("the room behind % x is seen", before[:n])
			}
			for i := n; i < len(room); i++ {
				room[i] = fill
			}
			if all(room[:n]) != got {
				t.Fatalf("% x answers otherwise beside other bytes", before[:n])
			}
		}
	}
}

// A CR, or the first bytes of an encoding, at the end of a part, with what would go on in the room behind it.
func TestP7_5RoomBehindIsNotRead(t *testing.T) {
	b := []byte("a\r\n\xe2\x82\xac")
	if start, content, next, err := lines.Line(b[:2], 0); start != 0 || content != 1 || next != 2 || err != api.OK {
		t.Errorf("Line(% x, 0) is %d, %d, %d, %d", b[:2], start, content, next, err)
	}
	if got, err := lines.Spot(b[:2], 2, api.Bytes); got != (api.Spot{Line: 1}) || err != api.OK {
		t.Errorf("Spot(% x, 2) is %v, %d", b[:2], got, err)
	}
	if got, err := lines.Spot(b[:5], 4, api.Units); got != (api.Spot{Line: 1, Col: 1}) || err != api.OK {
		t.Errorf("Spot(% x, 4) is %v, %d", b[:5], got, err)
	}
}

// R6: a list that was answered may be written over, spare room too, and nothing else changes.
func TestP7_5ListsAreNew(t *testing.T) {
	for _, text := range append(slices.Clone(written), "") {
		b := []byte(text)
		want := slices.Clone(lines.Starts(b))
		one, other := lines.Starts(b), lines.Starts(b)
		full := one[:cap(one)]
		for i := range full {
			full[i] = -1
		}
		if !slices.Equal(other, want) || !slices.Equal(lines.Starts(b), want) || string(b) != text {
			t.Errorf("% x: behind writing over a list: %v, %v, want %v", text, other, lines.Starts(b), want)
		}
		kept := lines.Starts(b)
		for i := range b {
			b[i] = '\n'
		}
		if !slices.Equal(kept, want) {
			t.Errorf("% x: behind writing over the bytes the list is %v", text, kept)
		}
	}
}

// P3: there and back by every two rulers is the place itself, over the lines.
func TestP3RulersAgree(t *testing.T) {
	fewTexts(func(b []byte) {
		for _, edge := range edges(b) {
			for _, r := range rulers {
				for _, other := range rulers {
					there := at(t, b, spot(t, b, edge, r), r, api.Exact)
					if back := at(t, b, spot(t, b, there, other), other, api.Exact); back != edge {
						t.Fatalf("% x: %d by %d and %d is %d", b, edge, r, other, back)
					}
				}
			}
		}
	})
}
