package edit_test

import (
	"math"
	"slices"
	"sort"
	"strings"
	"testing"
	"unicode/utf8"

	"galley/api"
	"galley/edit"
	"galley/rope"
	"galley/rule"
	"galley/weld"
)

const (
	least    = math.MinInt
	greatest = math.MaxInt
)

var (
	rulers   = []api.Ruler{api.Bytes, api.Runes, api.Units}
	modes    = []api.Mode{api.Down, api.Up, api.Exact}
	noRulers = []api.Ruler{0, 4, -1, 1 << 32, 1<<32 + 1, least, greatest}
	noModes  = []api.Mode{0, 4, -1, 1 << 32, 1<<32 + 1, least, greatest}
)

// noPlaces are places that no text has.
var noPlaces = []int{least, least + 1, -1 << 32, -1<<32 + 1, -4096, -1, api.MaxText + 1, 1 << 31, 1 << 32, 1<<32 + 1, greatest - 1, greatest}

// edge is one edge by all rulers.
type edge struct{ bytes, runes, units int }

func (e edge) by(r api.Ruler) int {
	switch r {
	case api.Bytes:
		return e.bytes
	case api.Runes:
		return e.runes
	}
	return e.units
}

// model is a text with its edges, by the document's words and the library.
type model struct {
	b     []byte
	edges []edge
	ends  int
}

func modelOf(b []byte) *model {
	m := &model{b: slices.Clone(b), edges: []edge{{}}}
	var e edge
	for left := m.b; len(left) > 0; {
		r, n := utf8.DecodeRune(left)
		e.bytes += n
		e.runes++
		e.units++
		if r > 0xFFFF {
			e.units++
		}
		m.edges = append(m.edges, e)
		left = left[n:]
	}
	for i, c := range b {
		if c == '\n' || c == '\r' && (i+1 == len(b) || b[i+1] != '\n') {
			m.ends++
		}
	}
	return m
}

func (m *model) last() edge { return m.edges[len(m.edges)-1] }

func (m *model) size(r api.Ruler) int { return m.last().by(r) }

// find: the byte place of an edge that a place of a ruler is, or goes to; -1: it is no edge, and the mode is Exact. It must be a place of the text.
func (m *model) find(r api.Ruler, place int, mode api.Mode) int {
	if r == api.Bytes {
		return place
	}
	i := sort.Search(len(m.edges), func(i int) bool { return m.edges[i].by(r) >= place })
	switch {
	case m.edges[i].by(r) == place || mode == api.Up:
		return m.edges[i].bytes
	case mode == api.Down:
		return m.edges[i-1].bytes
	}
	return -1
}

func (m *model) resolve(e api.Edit, mode api.Mode) (api.Change, api.Errno) {
	if !slices.Contains(rulers, e.Ruler) || !slices.Contains(modes, mode) {
		return api.Change{}, api.ErrRuler
	}
	if e.Lo < 0 || e.Lo > e.Hi || e.Hi > m.size(e.Ruler) {
		return api.Change{}, api.ErrRange
	}
	lo, hi := m.find(e.Ruler, e.Lo, mode), m.find(e.Ruler, e.Hi, mode)
	if lo < 0 || hi < 0 {
		return api.Change{}, api.ErrInside
	}
	if lo+len(e.Text)+len(m.b)-hi > api.MaxText {
		return api.Change{}, api.ErrLong
	}
	return api.Change{Lo: lo, Hi: hi, Text: e.Text}, api.OK
}

// wrong: what is wrong with a change alone.
func (m *model) wrong(c api.Change) api.Errno {
	if c.Lo < 0 || c.Lo > c.Hi || c.Hi > len(m.b) {
		return api.ErrRange
	}
	if c.Lo+len(c.Text)+len(m.b)-c.Hi > api.MaxText {
		return api.ErrLong
	}
	return api.OK
}

func (m *model) apply(c api.Change) ([]byte, api.Errno) {
	if err := m.wrong(c); err != api.OK {
		return nil, err
	}
	return slices.Concat(m.b[:c.Lo], []byte(c.Text), m.b[c.Hi:]), api.OK
}

func (m *model) inverse(c api.Change) (api.Change, api.Errno) {
	if err := m.wrong(c); err != api.OK {
		return api.Change{}, err
	}
	return api.Change{Lo: c.Lo, Hi: c.Lo + len(c.Text), Text: string(m.b[c.Lo:c.Hi])}, api.OK
}

func (m *model) grown(c api.Change) (api.Sizes, api.Errno) {
	b, err := m.apply(c)
	if err != api.OK {
		return api.Sizes{}, err
	}
	behind := modelOf(b)
	now, was := behind.last(), m.last()
	return api.Sizes{Bytes: now.bytes - was.bytes, Runes: now.runes - was.runes, Units: now.units - was.units, Ends: behind.ends - m.ends}, api.OK
}

// takes: does a change take out the byte at a place?
func takes(c api.Change, place int) bool { return c.Lo <= place && place < c.Hi }

// crosses, by the document's first words: there is a byte that both take out, or one takes out bytes on both sides of where the other one, which takes out none, puts its text.
func crosses(a, b api.Change) bool {
	for p := a.Lo; p < a.Hi; p++ {
		if takes(b, p) {
			return true
		}
	}
	between := func(x, y api.Change) bool {
		return x.Lo == x.Hi && takes(y, x.Lo-1) && takes(y, x.Lo)
	}
	return between(a, b) || between(b, a)
}

// precedes: does a change stand ahead of another one in order, wherever they stand in the list?
func precedes(a, b api.Change) bool {
	return a.Lo < b.Lo || a.Lo == b.Lo && a.Hi < b.Hi
}

func (m *model) batch(edits []api.Edit, mode api.Mode) ([]api.Change, int, api.Errno) {
	if len(edits) > api.MaxEdits {
		return nil, 0, api.ErrMany
	}
	var list []api.Change
	size := len(m.b)
	for at, e := range edits {
		c, err := m.resolve(e, mode)
		if err != api.OK {
			return nil, at, err
		}
		for _, other := range list {
			if crosses(c, other) {
				return nil, at, api.ErrCross
			}
		}
		list = append(list, c)
		size += len(c.Text) - (c.Hi - c.Lo)
	}
	if size > api.MaxText {
		return nil, 0, api.ErrLong
	}
	var sorted []api.Change
	for _, c := range list {
		i := 0
		for i < len(sorted) && !precedes(c, sorted[i]) {
			i++
		}
		sorted = slices.Insert(sorted, i, c)
	}
	return sorted, 0, api.OK
}

func (m *model) applyAll(cs []api.Change) ([]byte, api.Errno) {
	if len(cs) > api.MaxEdits {
		return nil, api.ErrMany
	}
	for _, c := range cs {
		if c.Lo < 0 || c.Lo > c.Hi || c.Hi > len(m.b) {
			return nil, api.ErrRange
		}
	}
	for i := range cs {
		if i > 0 && cs[i].Lo < cs[i-1].Hi {
			return nil, api.ErrCross
		}
	}
	var all strings.Builder
	at := 0
	for _, c := range cs {
		all.Write(m.b[at:c.Lo])
		all.WriteString(c.Text)
		at = c.Hi
	}
	all.Write(m.b[at:])
	return []byte(all.String()), api.OK
}

func (m *model) holdResolve(t testing.TB, r *rope.Rope, e api.Edit, mode api.Mode) {
	t.Helper()
	want, wantErr := m.resolve(e, mode)
	if got, err := edit.Resolve(r, e, mode); got != want || err != wantErr {
		t.Fatalf("%s: Resolve(%v, %d): %v, %d, want %v, %d", short(m.b), e, mode, got, err, want, wantErr)
	}
}

// holdChange: Apply, Inverse and Grown of one change.
func (m *model) holdChange(t testing.TB, r *rope.Rope, c api.Change) {
	t.Helper()
	want, wantErr := m.apply(c)
	got, err := edit.Apply(r, c)
	if err != wantErr || (got == nil) != (err != api.OK) || err == api.OK && string(textOf(t, got)) != string(want) {
		t.Fatalf("%s: Apply(%v): %v, %d, want %s, %d", short(m.b), c, got, err, short(want), wantErr)
	}
	back, wantErr := m.inverse(c)
	if got, err := edit.Inverse(r, c); got != back || err != wantErr {
		t.Fatalf("%s: Inverse(%v): %v, %d, want %v, %d", short(m.b), c, got, err, back, wantErr)
	}
	z, wantErr := m.grown(c)
	if got, err := edit.Grown(r, c); got != z || err != wantErr {
		t.Fatalf("%s: Grown(%v): %+v, %d, want %+v, %d", short(m.b), c, got, err, z, wantErr)
	}
}

// holdBatch: Batch of a list, and, where that has changes, ApplyAll of them.
func (m *model) holdBatch(t testing.TB, r *rope.Rope, edits []api.Edit, mode api.Mode) {
	t.Helper()
	want, wantAt, wantErr := m.batch(edits, mode)
	got, at, err := edit.Batch(r, edits, mode)
	if !slices.Equal(got, want) || at != wantAt || err != wantErr {
		t.Fatalf("%s: Batch(%v, %d): %v, %d, %d, want %v, %d, %d", short(m.b), edits, mode, got, at, err, want, wantAt, wantErr)
	}
	if err == api.OK {
		m.holdApplyAll(t, r, got)
	}
}

func (m *model) holdApplyAll(t testing.TB, r *rope.Rope, cs []api.Change) {
	t.Helper()
	want, wantErr := m.applyAll(cs)
	got, err := edit.ApplyAll(r, cs)
	if err != wantErr || (got == nil) != (err != api.OK) || err == api.OK && string(textOf(t, got)) != string(want) {
		t.Fatalf("%s: ApplyAll(%v): %v, %d, want %s, %d", short(m.b), cs, got, err, short(want), wantErr)
	}
}

// fewPlaces are some of 0 to n: all, if they are few; else both ends, and some around the sizes at which leaves may meet.
func fewPlaces(n int) []int {
	if n <= 8 {
		return manyPlaces(n)
	}
	places := []int{0, 1, 2, n / 2, n - 2, n - 1, n}
	for _, base := range []int{1024, 4096, 8192} {
		for p := base - 2; p <= base+2 && p < n-2; p++ {
			places = append(places, p)
		}
	}
	return places
}

// around are the places of 0 to n, one on each side of them, and some far outside.
func around(n int) []int {
	places := []int{least, -1}
	for p := range n + 2 {
		places = append(places, p)
	}
	return append(places, greatest)
}

// The model's own test: it finds places and counts sizes as layers 5 and 6 do.
func TestModel(t *testing.T) {
	t.Parallel()
	hold := func(b []byte) {
		m := modelOf(b)
		e := m.last()
		if z := (api.Sizes{Bytes: e.bytes, Runes: e.runes, Units: e.units, Ends: m.ends}); z != weld.Sizes(b) {
			t.Fatalf("%s: %+v", short(b), z)
		}
		for _, u := range rulers[1:] {
			for _, p := range fewPlaces(m.size(u)) {
				for _, mode := range modes {
					want, err := rule.To(b, u, p, api.Bytes, mode)
					if err != api.OK {
						want = -1
					}
					if got := m.find(u, p, mode); got != want {
						t.Fatalf("%s: %d by %d, %d: %d, want %d", short(b), p, u, mode, got, want)
					}
				}
			}
		}
	}
	fewTexts(hold)
	longTexts(func(_ string, b []byte) { hold(b) })
}
