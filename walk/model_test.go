package walk_test

import (
	"bytes"
	"fmt"
	"iter"
	"math"
	"slices"
	"sort"
	"testing"
	"unicode/utf16"
	"unicode/utf8"

	"galley/api"
	"galley/lines"
	"galley/rope"
	"galley/step"
	"galley/units"
	"galley/walk"
)

const (
	least    = math.MinInt
	greatest = math.MaxInt
)

var (
	rulers   = []api.Ruler{api.Bytes, api.Runes, api.Units}
	noRulers = []api.Ruler{0, 4, -1, 1 << 32, 1<<32 + 1, least, greatest}
)

// noPlaces are places and lines that no text has.
var noPlaces = []int{least, least + 1, -1 << 32, -1<<32 + 1, -4096, -2, -1, api.MaxText + 2, 1 << 31, 1 << 32, 1<<32 + 1, greatest - 1, greatest}

// outside are numbers that stand directly outside of 0 to n, and far outside.
func outside(n int) []int { return append([]int{n + 1, n + 2}, noPlaces...) }

// edge is one edge by all rulers.
type edge struct{ bytes, runes, units int }

func (e edge) by(r api.Ruler) int {
	return map[api.Ruler]int{api.Bytes: e.bytes, api.Runes: e.runes, api.Units: e.units}[r]
}

// model is a text with its edges, steps, units and lines, by the document's words and the library.
type model struct {
	b     []byte
	edges []edge
	steps []api.Step
	units []uint16
	lines [][]byte
}

func modelOf(b []byte) *model {
	m := &model{b: slices.Clone(b), edges: []edge{{}}}
	var e edge
	for left := m.b; len(left) > 0; {
		r, n := utf8.DecodeRune(left)
		m.steps = append(m.steps, api.Step{Rune: r, Width: n, Whole: r != utf8.RuneError || n > 1})
		m.units = utf16.AppendRune(m.units, r)
		e = edge{e.bytes + n, e.runes + 1, len(m.units)}
		m.edges = append(m.edges, e)
		left = left[n:]
	}
	start := 0
	for i := 0; i < len(b); i++ {
		content := i
		switch {
		case b[i] == '\r' && i+1 < len(b) && b[i+1] == '\n':
			i++
		case b[i] != '\r' && b[i] != '\n':
			continue
		}
		m.lines = append(m.lines, m.b[start:content])
		start = i + 1
	}
	m.lines = append(m.lines, m.b[start:])
	return m
}

// floor: which edge is the last at or ahead of a place; -1: it is no place.
func (m *model) floor(place int) int {
	if place < 0 || place > len(m.b) {
		return -1
	}
	return sort.Search(len(m.edges), func(i int) bool { return m.edges[i].bytes > place }) - 1
}

// given is one of what an iterator gives.
type given struct {
	place int
	step  api.Step
}

// ahead: the steps from the one on that begins at the floor of a place.
func (m *model) ahead(from int) []given {
	i := m.floor(from)
	if i < 0 {
		return nil
	}
	var all []given
	for ; i < len(m.steps); i++ {
		all = append(all, given{m.edges[i].bytes, m.steps[i]})
	}
	return all
}

// back: the steps from the one on that ends at the floor of a place, backwards.
func (m *model) back(from int) []given {
	var all []given
	for i := m.floor(from) - 1; i >= 0; i-- {
		all = append(all, given{m.edges[i].bytes, m.steps[i]})
	}
	return all
}

// taken is what an iterator gives, at most so many.
func taken(seq iter.Seq2[int, api.Step], most int) []given {
	var all []given
	if most == 0 {
		return nil
	}
	for p, s := range seq {
		all = append(all, given{p, s})
		if len(all) == most {
			break
		}
	}
	return all
}

// few is how much of a long text's steps is held against the model from each of many places; some leaves, so that joints are among them.
const few = 9000

func upTo(all []given, most int) []given { return all[:min(len(all), most)] }

func (m *model) holdSteps(t testing.TB, r *rope.Rope, from int) {
	t.Helper()
	want := upTo(m.ahead(from), few)
	if got := taken(walk.Steps(r, from), few); !slices.Equal(got, want) {
		t.Fatalf("%s: Steps(%d): %s", short(m.b), from, unlike(got, want))
	}
}

func (m *model) holdBack(t testing.TB, r *rope.Rope, from int) {
	t.Helper()
	want := upTo(m.back(from), few)
	if got := taken(walk.Back(r, from), few); !slices.Equal(got, want) {
		t.Fatalf("%s: Back(%d): %s", short(m.b), from, unlike(got, want))
	}
}

func (m *model) holdUnits(t testing.TB, r *rope.Rope) {
	t.Helper()
	var got []uint16
	for p, u := range walk.Units(r) {
		if p != len(got) {
			t.Fatalf("%s: Units: the place %d for the unit %d", short(m.b), p, len(got))
		}
		got = append(got, u)
	}
	if !slices.Equal(got, m.units) {
		t.Fatalf("%s: Units: %d, want %d: %s", short(m.b), len(got), len(m.units), unlike(got, m.units))
	}
}

func (m *model) holdLines(t testing.TB, r *rope.Rope, from int) {
	t.Helper()
	var want [][]byte
	if from >= 0 && from < len(m.lines) {
		want = m.lines[from:]
	}
	n := 0
	for k, content := range walk.Lines(r, from) {
		if n == len(want) || k != from+n || !bytes.Equal(content, want[n]) {
			t.Fatalf("%s: Lines(%d): %d is %s", short(m.b), from, k, short(content))
		}
		n++
	}
	if n != len(want) {
		t.Fatalf("%s: Lines(%d): %d, want %d", short(m.b), from, n, len(want))
	}
}

// holdAll: all iterators give what the rope's bytes say, from some places and lines on, and nothing from outside.
func (m *model) holdAll(t testing.TB, r *rope.Rope, some func(n int) []int) {
	t.Helper()
	for _, p := range append(some(len(m.b)), outside(len(m.b))...) {
		m.holdSteps(t, r, p)
		m.holdBack(t, r, p)
	}
	m.holdUnits(t, r)
	last := len(m.lines) - 1
	for _, k := range append(some(last), outside(last)...) {
		m.holdLines(t, r, k)
	}
}

// unlike tells where two lists part.
func unlike[T comparable](got, want []T) string {
	for i := range min(len(got), len(want)) {
		if got[i] != want[i] {
			return fmt.Sprint("at ", i, ": ", got[i], ", want ", want[i])
		}
	}
	return fmt.Sprint(len(got), " of them, want ", len(want))
}

// fewPlaces are some of 0 to n: all, if they are few; else both ends, and some around the sizes at which leaves may meet.
func fewPlaces(n int) []int {
	if n <= 8 {
		return manyPlaces(n)
	}
	places := []int{0, 1, 2, n / 2, n - 2, n - 1, n}
	for _, base := range []int{1024, 4096, 8192} {
		for p := base - 2; p <= base+2 && p < n-2; p++ {
			places = append(places, p)
		}
	}
	return places
}

// The model's own test: it says what layers 2, 3 and 7 say of the bytes.
func TestModel(t *testing.T) {
	t.Parallel()
	hold := func(b []byte) {
		m := modelOf(b)
		if got, want := m.ahead(0), taken(step.All(b), -1); !slices.Equal(got, want) {
			t.Fatalf("%s: ahead: %s", short(b), unlike(got, want))
		}
		if got, want := m.back(len(b)), taken(step.Back(b), -1); !slices.Equal(got, want) {
			t.Fatalf("%s: back: %s", short(b), unlike(got, want))
		}
		if want := units.To(b); !slices.Equal(m.units, want) {
			t.Fatalf("%s: units: %s", short(b), unlike(m.units, want))
		}
		if len(m.lines) != lines.Count(b) {
			t.Fatalf("%s: %d lines, want %d", short(b), len(m.lines), lines.Count(b))
		}
		for _, k := range fewPlaces(len(m.lines) - 1) {
			start, content, _, _ := lines.Line(b, k)
			if !bytes.Equal(m.lines[k], b[start:content]) {
				t.Fatalf("%s: line %d is %s", short(b), k, short(m.lines[k]))
			}
		}
		for _, p := range append(fewPlaces(len(b)), -1, len(b)+1) {
			want, err := step.Floor(b, p)
			if i := m.floor(p); (i < 0) != (err != api.OK) || i >= 0 && m.edges[i].bytes != want {
				t.Fatalf("%s: the floor of %d is the edge %d, want %d, %d", short(b), p, i, want, err)
			}
		}
	}
	fewTexts(hold)
	longTexts(func(_ string, b []byte) { hold(b) })
}
