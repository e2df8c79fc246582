package seek_test

import (
	"math"
	"slices"
	"sort"
	"testing"
	"unicode/utf8"

	"galley/api"
	"galley/lines"
	"galley/rope"
	"galley/rule"
	"galley/seek"
	"galley/step"
)

const (
	least    = math.MinInt
	greatest = math.MaxInt
)

var (
	rulers   = []api.Ruler{api.Bytes, api.Runes, api.Units}
	modes    = []api.Mode{api.Down, api.Up, api.Exact}
	noRulers = []api.Ruler{0, 4, -1, 1 << 32, 1<<32 + 1, least, greatest}
	noModes  = []api.Mode{0, 4, -1, 1 << 32, 1<<32 + 1, least, greatest}
)

// noPlaces are places and lines that no text has.
var noPlaces = []int{least, least + 1, -1 << 32, -1<<32 + 1, -4096, -2, -1, api.MaxText + 2, 1 << 31, 1 << 32, 1<<32 + 1, greatest - 1, greatest}

// edge is one edge by all rulers.
type edge struct{ bytes, runes, units int }

func (e edge) by(r api.Ruler) int {
	return map[api.Ruler]int{api.Bytes: e.bytes, api.Runes: e.runes, api.Units: e.units}[r]
}

// row is a line: where it begins, where its content ends, where the next one begins.
type row struct{ start, content, next int }

// model is a text with its edges, steps and lines, by the document's words and the library.
type model struct {
	b     []byte
	edges []edge
	steps []api.Step
	rows  []row
}

func modelOf(b []byte) *model {
	m := &model{b: slices.Clone(b), edges: []edge{{}}}
	var e edge
	for left := m.b; len(left) > 0; {
		r, n := utf8.DecodeRune(left)
		m.steps = append(m.steps, api.Step{Rune: r, Width: n, Whole: r != utf8.RuneError || n > 1})
		e.bytes += n
		e.runes++
		e.units++
		if r > 0xFFFF {
			e.units++
		}
		m.edges = append(m.edges, e)
		left = left[n:]
	}
	start := 0
	for i := 0; i < len(b); i++ {
		content := i
		switch {
		case b[i] == '\r' && i+1 < len(b) && b[i+1] == '\n':
			i++
		case b[i] != '\r' && b[i] != '\n':
			continue
		}
		m.rows = append(m.rows, row{start, content, i + 1})
		start = i + 1
	}
	m.rows = append(m.rows, row{start, len(b), len(b)})
	return m
}

// up: which edge is the first at or behind a place of a ruler; as many as there are edges: it is beyond the text.
func (m *model) up(r api.Ruler, place int) int {
	switch r {
	case api.Bytes:
		return sort.Search(len(m.edges), func(i int) bool { return m.edges[i].bytes >= place })
	case api.Runes:
		return sort.Search(len(m.edges), func(i int) bool { return m.edges[i].runes >= place })
	}
	return sort.Search(len(m.edges), func(i int) bool { return m.edges[i].units >= place })
}

// find: the edge that a place is, or goes to.
func (m *model) find(r api.Ruler, place int, mode api.Mode) (edge, api.Errno) {
	i := m.up(r, place)
	if place < 0 || i == len(m.edges) {
		return edge{}, api.ErrRange
	}
	switch {
	case m.edges[i].by(r) == place || mode == api.Up:
		return m.edges[i], api.OK
	case mode == api.Down:
		return m.edges[i-1], api.OK
	}
	return edge{}, api.ErrInside
}

func (m *model) to(from api.Ruler, place int, to api.Ruler, mode api.Mode) (int, api.Errno) {
	if !slices.Contains(rulers, from) || !slices.Contains(rulers, to) || !slices.Contains(modes, mode) {
		return 0, api.ErrRuler
	}
	e, err := m.find(from, place, mode)
	return e.by(to), err
}

func (m *model) floor(place int) (edge, api.Errno) { return m.find(api.Bytes, place, api.Down) }

// edgeAt is the edge that a byte place is.
func (m *model) edgeAt(place int) edge { return m.edges[m.up(api.Bytes, place)] }

func (m *model) where(place int) (api.Where, api.Errno) {
	e, err := m.floor(place)
	if err != api.OK {
		return api.Where{}, err
	}
	k := sort.Search(len(m.rows), func(i int) bool { return m.rows[i].start > e.bytes }) - 1
	start := m.edgeAt(m.rows[k].start)
	return api.Where{
		Bytes: e.bytes, Runes: e.runes, Units: e.units, Line: k,
		ColBytes: e.bytes - start.bytes, ColRunes: e.runes - start.runes, ColUnits: e.units - start.units,
	}, api.OK
}

// greatestCol is the column of a line's last place.
func (m *model) greatestCol(k int, r api.Ruler) int {
	l := m.rows[k]
	last := l.content
	if l.next-l.content == 2 {
		last++
	}
	return m.edgeAt(last).by(r) - m.edgeAt(l.start).by(r)
}

func (m *model) at(s api.Spot, r api.Ruler, mode api.Mode) (int, api.Errno) {
	if !slices.Contains(rulers, r) || !slices.Contains(modes, mode) {
		return 0, api.ErrRuler
	}
	if s.Line < 0 || s.Line >= len(m.rows) || s.Col < 0 {
		return 0, api.ErrRange
	}
	l := m.rows[s.Line]
	if s.Col > m.greatestCol(s.Line, r) {
		if mode == api.Exact {
			return 0, api.ErrRange
		}
		return l.content, api.OK
	}
	e, err := m.find(r, m.edgeAt(l.start).by(r)+s.Col, mode)
	return e.bytes, err
}

func (m *model) line(k int) (start, content, next int, err api.Errno) {
	if k < 0 || k >= len(m.rows) {
		return 0, 0, 0, api.ErrRange
	}
	l := m.rows[k]
	return l.start, l.content, l.next, api.OK
}

func (m *model) step(place int) (int, api.Step, api.Errno) {
	if place < 0 || place >= len(m.b) {
		return 0, api.Step{}, api.ErrRange
	}
	i := m.up(api.Bytes, place+1) - 1
	return m.edges[i].bytes, m.steps[i], api.OK
}

func (m *model) size(r api.Ruler) int { return m.edges[len(m.edges)-1].by(r) }

func (m *model) holdTo(t testing.TB, r *rope.Rope, from api.Ruler, place int, to api.Ruler, mode api.Mode) {
	t.Helper()
	want, wantErr := m.to(from, place, to, mode)
	if got, err := seek.To(r, from, place, to, mode); got != want || err != wantErr {
		t.Fatalf("%s: To(%d, %d, %d, %d): %d, %d, want %d, %d", short(m.b), from, place, to, mode, got, err, want, wantErr)
	}
}

func (m *model) holdWhere(t testing.TB, r *rope.Rope, place int) {
	t.Helper()
	want, wantErr := m.where(place)
	if got, err := seek.Where(r, place); got != want || err != wantErr {
		t.Fatalf("%s: Where(%d): %+v, %d, want %+v, %d", short(m.b), place, got, err, want, wantErr)
	}
}

func (m *model) holdAt(t testing.TB, r *rope.Rope, s api.Spot, u api.Ruler, mode api.Mode) {
	t.Helper()
	want, wantErr := m.at(s, u, mode)
	if got, err := seek.At(r, s, u, mode); got != want || err != wantErr {
		t.Fatalf("%s: At(%v, %d, %d): %d, %d, want %d, %d", short(m.b), s, u, mode, got, err, want, wantErr)
	}
}

func (m *model) holdLine(t testing.TB, r *rope.Rope, k int) {
	t.Helper()
	start, content, next, wantErr := m.line(k)
	if s, c, n, err := seek.Line(r, k); s != start || c != content || n != next || err != wantErr {
		t.Fatalf("%s: Line(%d): %d, %d, %d, %d, want %d, %d, %d, %d", short(m.b), k, s, c, n, err, start, content, next, wantErr)
	}
}

func (m *model) holdFloor(t testing.TB, r *rope.Rope, place int) {
	t.Helper()
	want, wantErr := m.floor(place)
	if got, err := seek.Floor(r, place); got != want.bytes || err != wantErr {
		t.Fatalf("%s: Floor(%d): %d, %d, want %d, %d", short(m.b), place, got, err, want.bytes, wantErr)
	}
}

func (m *model) holdStep(t testing.TB, r *rope.Rope, place int) {
	t.Helper()
	at, want, wantErr := m.step(place)
	if p, got, err := seek.Step(r, place); p != at || got != want || err != wantErr {
		t.Fatalf("%s: Step(%d): %d, %+v, %d, want %d, %+v, %d", short(m.b), place, p, got, err, at, want, wantErr)
	}
}

// outside are numbers that stand directly outside of 0 to n, and far outside.
func outside(n int) []int { return append([]int{n + 1, n + 2}, noPlaces...) }

// holdAll: a rope answers to every call as its bytes say, at some places, and outside.
func (m *model) holdAll(t testing.TB, r *rope.Rope, some func(n int) []int) {
	t.Helper()
	for _, p := range append(some(len(m.b)), outside(len(m.b))...) {
		m.holdWhere(t, r, p)
		m.holdFloor(t, r, p)
		m.holdStep(t, r, p)
	}
	for _, u := range rulers {
		for _, p := range append(some(m.size(u)), outside(m.size(u))...) {
			for _, mode := range modes {
				for _, to := range rulers {
					m.holdTo(t, r, u, p, to, mode)
				}
			}
		}
	}
	m.holdLines(t, r, some)
}

// holdLines: some lines, and some columns of each.
func (m *model) holdLines(t testing.TB, r *rope.Rope, some func(n int) []int) {
	t.Helper()
	last := len(m.rows) - 1
	for _, k := range append(some(last), outside(last)...) {
		m.holdLine(t, r, k)
		for _, u := range rulers {
			cols := []int{0, 1}
			if k >= 0 && k <= last {
				most := m.greatestCol(k, u)
				cols = append(some(most), most+1, most+2, most+3, greatest, greatest-1, -1, least)
			}
			for _, c := range cols {
				for _, mode := range modes {
					m.holdAt(t, r, api.Spot{Line: k, Col: c}, u, mode)
				}
			}
		}
	}
}

// fewPlaces are some of 0 to n: all, if they are few; else both ends, and some around the sizes at which leaves may meet.
func fewPlaces(n int) []int {
	if n <= 8 {
		return manyPlaces(n)
	}
	places := []int{0, 1, 2, n / 2, n - 2, n - 1, n}
	for _, base := range []int{1024, 4096, 8192} {
		for p := base - 2; p <= base+2 && p < n-2; p++ {
			places = append(places, p)
		}
	}
	return places
}

// The model's own test: it says what layers 2, 6 and 7 say of the bytes.
func TestModel(t *testing.T) {
	t.Parallel()
	hold := func(b []byte) {
		m := modelOf(b)
		for _, p := range append(fewPlaces(len(b)), -1, len(b)+1) {
			want, wantErr := lines.Where(b, p)
			if got, err := m.where(p); got != want || err != wantErr {
				t.Fatalf("%s at %d: %+v, %d, want %+v, %d", short(b), p, got, err, want, wantErr)
			}
			edge, wantErr := step.Floor(b, p)
			if got, err := m.floor(p); got.bytes != edge || err != wantErr {
				t.Fatalf("%s at %d: %d, %d, want %d, %d", short(b), p, got.bytes, err, edge, wantErr)
			}
			if begin, s, err := m.step(p); err == api.OK {
				if want, _ := step.At(b, begin); s != want || begin != edge {
					t.Fatalf("%s at %d: %d, %+v, want %d, %+v", short(b), p, begin, s, edge, want)
				}
			}
		}
		for _, u := range rulers {
			for _, p := range append(fewPlaces(m.size(u)), -1, m.size(u)+1) {
				for _, mode := range modes {
					want, wantErr := rule.To(b, u, p, api.Units, mode)
					if got, err := m.to(u, p, api.Units, mode); got != want || err != wantErr {
						t.Fatalf("%s: To(%d, %d, %d): %d, %d, want %d, %d", short(b), u, p, mode, got, err, want, wantErr)
					}
				}
			}
		}
		for _, k := range append(fewPlaces(len(m.rows)-1), -1, len(m.rows)) {
			start, content, next, wantErr := lines.Line(b, k)
			if s, c, n, err := m.line(k); s != start || c != content || n != next || err != wantErr {
				t.Fatalf("%s: Line(%d): %d, %d, %d, %d", short(b), k, s, c, n, err)
			}
			for col := range 4 {
				want, wantErr := lines.At(b, api.Spot{Line: k, Col: col}, api.Units, api.Up)
				if got, err := m.at(api.Spot{Line: k, Col: col}, api.Units, api.Up); got != want || err != wantErr {
					t.Fatalf("%s: At(%d %d): %d, %d, want %d, %d", short(b), k, col, got, err, want, wantErr)
				}
			}
		}
	}
	fewTexts(hold)
	longTexts(func(_ string, b []byte) { hold(b) })
}
