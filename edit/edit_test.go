package edit_test

import (
	"fmt"
	"math/rand"
	"slices"
	"strings"
	"sync"
	"testing"

	"galley/api"
	"galley/edit"
	"galley/rope"
)

// face is the text of the chapter's examples.
const face = "a\U0001F600b"

// putTexts are texts that edits put: no bytes, whole steps, and parts that may make a step, or CR LF, with what stands beside them.
var putTexts = []string{"", "x", "\U0001F600", "\r", "\n", "\xe2", "\x82\xac", "\xf0\x9f", "\x98\x80", "yz\r\n"}

func TestP12_1Examples(t *testing.T) {
	t.Parallel()
	r := made(t, []byte(face))
	for _, c := range []struct {
		e    api.Edit
		m    api.Mode
		want api.Change
		err  api.Errno
	}{
		{api.Edit{Ruler: api.Bytes, Lo: 1, Hi: 5, Text: "x"}, api.Exact, api.Change{Lo: 1, Hi: 5, Text: "x"}, api.OK},
		{api.Edit{Ruler: api.Runes, Lo: 1, Hi: 2, Text: "x"}, api.Exact, api.Change{Lo: 1, Hi: 5, Text: "x"}, api.OK},
		{api.Edit{Ruler: api.Units, Lo: 1, Hi: 3, Text: "x"}, api.Exact, api.Change{Lo: 1, Hi: 5, Text: "x"}, api.OK},
		{api.Edit{Ruler: api.Units, Lo: 2, Hi: 2, Text: "x"}, api.Down, api.Change{Lo: 1, Hi: 1, Text: "x"}, api.OK},
		{api.Edit{Ruler: api.Units, Lo: 2, Hi: 2, Text: "x"}, api.Up, api.Change{Lo: 5, Hi: 5, Text: "x"}, api.OK},
		{api.Edit{Ruler: api.Units, Lo: 2, Hi: 2, Text: "x"}, api.Exact, api.Change{}, api.ErrInside},
		{api.Edit{Ruler: api.Bytes, Lo: 3, Hi: 6}, api.Down, api.Change{Lo: 3, Hi: 6}, api.OK},
		{api.Edit{Ruler: api.Bytes, Lo: 3, Hi: 6}, api.Up, api.Change{Lo: 3, Hi: 6}, api.OK},
		{api.Edit{Ruler: api.Bytes, Lo: 3, Hi: 6}, api.Exact, api.Change{Lo: 3, Hi: 6}, api.OK},
		{api.Edit{Ruler: api.Runes, Lo: 2, Hi: 1}, api.Down, api.Change{}, api.ErrRange},
		{api.Edit{Ruler: api.Runes, Lo: 0, Hi: 4}, api.Down, api.Change{}, api.ErrRange},
		{api.Edit{}, api.Down, api.Change{}, api.ErrRuler},
	} {
		if got, err := edit.Resolve(r, c.e, c.m); got != c.want || err != c.err {
			t.Errorf("Resolve(%v, %d): %v, %d, want %v, %d", c.e, c.m, got, err, c.want, c.err)
		}
	}
}

// Both places go to edges by the mode, each by itself: of one within a step and one at its edge, too.
func TestP12_1EachPlaceByTheMode(t *testing.T) {
	t.Parallel()
	r := made(t, []byte(face+face))
	for _, c := range []struct {
		lo, hi int
		m      api.Mode
		want   api.Change
		err    api.Errno
	}{
		{1, 2, api.Down, api.Change{Lo: 1, Hi: 1}, api.OK},
		{1, 2, api.Up, api.Change{Lo: 1, Hi: 5}, api.OK},
		{2, 3, api.Down, api.Change{Lo: 1, Hi: 5}, api.OK},
		{2, 3, api.Up, api.Change{Lo: 5, Hi: 5}, api.OK},
		{2, 6, api.Down, api.Change{Lo: 1, Hi: 7}, api.OK},
		{2, 6, api.Up, api.Change{Lo: 5, Hi: 11}, api.OK},
		{1, 2, api.Exact, api.Change{}, api.ErrInside},
		{2, 3, api.Exact, api.Change{}, api.ErrInside},
		{2, 6, api.Exact, api.Change{}, api.ErrInside},
		{1, 7, api.Exact, api.Change{Lo: 1, Hi: 11}, api.OK},
	} {
		if got, err := edit.Resolve(r, api.Edit{Ruler: api.Units, Lo: c.lo, Hi: c.hi}, c.m); got != c.want || err != c.err {
			t.Errorf("Resolve({Units %d %d}, %d): %v, %d, want %v, %d", c.lo, c.hi, c.m, got, err, c.want, c.err)
		}
	}
}

// Lo and Hi at every place of short texts, within encodings, and outside.
func TestP12_1ShortTexts(t *testing.T) {
	t.Parallel()
	fewTexts(func(b []byte) {
		m, r := modelOf(b), made(t, b)
		for _, u := range rulers {
			for _, lo := range around(m.size(u)) {
				for _, hi := range around(m.size(u)) {
					for _, mode := range modes {
						m.holdResolve(t, r, api.Edit{Ruler: u, Lo: lo, Hi: hi, Text: "\U0001F600"}, mode)
					}
				}
			}
		}
	})
}

func TestP12_1LongTexts(t *testing.T) {
	t.Parallel()
	longTexts(func(name string, b []byte) {
		m := modelOf(b)
		for i, w := range ways {
			if len(b) > 5000 && i%4 != len(b)%4 {
				continue
			}
			r := w.make(t, b)
			for _, u := range rulers {
				places := append(fewPlaces(m.size(u)), m.size(u)+1, -1)
				for j, lo := range places {
					for _, hi := range places[j:min(len(places), j+4)] {
						m.holdResolve(t, r, api.Edit{Ruler: u, Lo: lo, Hi: hi, Text: name}, modes[(j+i)%3])
					}
				}
			}
		}
	})
}

// Every ruler and mode that is none, whatever else is wrong; and far places.
func TestP12_1NoRulersNoPlaces(t *testing.T) {
	t.Parallel()
	for _, text := range []string{"", face, "\xf0\x9f"} {
		m, r := modelOf([]byte(text)), made(t, []byte(text))
		for _, u := range append(noRulers, rulers...) {
			for _, mode := range append(noModes, modes...) {
				for _, p := range []int{0, 2, 9, -1, least, greatest} {
					m.holdResolve(t, r, api.Edit{Ruler: u, Lo: p, Hi: p}, mode)
				}
			}
		}
		for _, u := range rulers {
			for _, p := range noPlaces {
				for _, q := range append([]int{0, 1}, noPlaces...) {
					m.holdResolve(t, r, api.Edit{Ruler: u, Lo: p, Hi: q}, api.Up)
					m.holdResolve(t, r, api.Edit{Ruler: u, Lo: q, Hi: p}, api.Exact)
				}
			}
		}
	}
}

// tooLong is a text that no rope may have; it is made once, for it needs much memory.
var tooLong = sync.OnceValue(func() string { return strings.Repeat("x", api.MaxText+1) })

// Two and more errors at one time: the first in the document's order is told.
func TestP12_1ErrorsInOrder(t *testing.T) {
	t.Parallel()
	r, long := made(t, []byte(face)), tooLong()
	for _, c := range []struct {
		name string
		r    *rope.Rope
		e    api.Edit
		m    api.Mode
		err  api.Errno
	}{
		{"all", nil, api.Edit{Ruler: 9, Lo: 3, Hi: 2, Text: long}, 9, api.ErrNil},
		{"nil alone", nil, api.Edit{Ruler: api.Bytes}, api.Exact, api.ErrNil},
		{"no ruler, range, long", r, api.Edit{Lo: 3, Hi: 2, Text: long}, api.Exact, api.ErrRuler},
		{"no mode, range, long", r, api.Edit{Ruler: api.Units, Lo: -1, Hi: 2, Text: long}, 0, api.ErrRuler},
		{"no mode, bytes", r, api.Edit{Ruler: api.Bytes}, 4, api.ErrRuler},
		{"lo inside, hi beyond", r, api.Edit{Ruler: api.Units, Lo: 2, Hi: 5, Text: long}, api.Exact, api.ErrRange},
		{"lo below, hi inside", r, api.Edit{Ruler: api.Units, Lo: -1, Hi: 2, Text: long}, api.Exact, api.ErrRange},
		{"lo inside, hi ahead", r, api.Edit{Ruler: api.Units, Lo: 2, Hi: 1, Text: long}, api.Exact, api.ErrRange},
		{"lo inside, long", r, api.Edit{Ruler: api.Units, Lo: 2, Hi: 4, Text: long}, api.Exact, api.ErrInside},
		{"hi inside, long", r, api.Edit{Ruler: api.Units, Lo: 0, Hi: 2, Text: long}, api.Exact, api.ErrInside},
		{"long", r, api.Edit{Ruler: api.Units, Lo: 0, Hi: 4, Text: long}, api.Exact, api.ErrLong},
		{"long, not Exact", r, api.Edit{Ruler: api.Units, Lo: 2, Hi: 2, Text: long}, api.Down, api.ErrLong},
		{"long by bytes, inside", r, api.Edit{Ruler: api.Bytes, Lo: 2, Hi: 2, Text: long}, api.Exact, api.ErrLong},
	} {
		if got, err := edit.Resolve(c.r, c.e, c.m); got != (api.Change{}) || err != c.err {
			t.Errorf("%s: %d %d, %d, want %d", c.name, got.Lo, got.Hi, err, c.err)
		}
	}
}

// Texts with which the whole has MaxText bytes, and one more.
func TestP12_1MaxText(t *testing.T) {
	t.Parallel()
	small, long := made(t, []byte(face)), tooLong()
	for _, c := range []struct {
		lo, hi, n int
		err       api.Errno
	}{
		{0, 0, api.MaxText - 6, api.OK},
		{0, 0, api.MaxText - 5, api.ErrLong},
		{1, 3, api.MaxText - 2, api.OK},
		{1, 3, api.MaxText - 1, api.ErrLong},
		{0, 4, api.MaxText, api.OK},
		{0, 4, api.MaxText + 1, api.ErrLong},
		{4, 4, api.MaxText, api.ErrLong},
	} {
		got, err := edit.Resolve(small, api.Edit{Ruler: api.Units, Lo: c.lo, Hi: c.hi, Text: long[:c.n]}, api.Exact)
		if err != c.err || err == api.OK && len(got.Text) != c.n {
			t.Errorf("%d %d with %d bytes: %d, want %d", c.lo, c.hi, c.n, err, c.err)
		}
	}
	full := doubled(t, []byte(face+"xy"), 25)
	for _, c := range []struct {
		lo, hi int
		text   string
		err    api.Errno
	}{
		{0, 0, "", api.OK},
		{0, 0, "x", api.ErrLong},
		{full.Len() / 2, full.Len() / 2, "x", api.ErrLong},
		{2, 3, "x", api.OK},
		{2, 3, "xy", api.ErrLong},
		{full.Len() - 1, full.Len(), "x", api.OK},
		{full.Len(), full.Len(), "x", api.ErrLong},
	} {
		want := api.Change{Lo: c.lo, Hi: c.hi, Text: c.text}
		if c.err != api.OK {
			want = api.Change{}
		}
		if got, err := edit.Resolve(full, api.Edit{Ruler: api.Bytes, Lo: c.lo, Hi: c.hi, Text: c.text}, api.Down); got != want || err != c.err {
			t.Errorf("full, %d %d %q: %v, %d, want %v, %d", c.lo, c.hi, c.text, got, err, want, c.err)
		}
	}
	// By the mode a place goes to an edge: how much is taken out hangs on it.
	e := api.Edit{Ruler: api.Units, Lo: 1, Hi: 2, Text: "four"}
	if _, err := edit.Resolve(full, e, api.Down); err != api.ErrLong {
		t.Errorf("nothing is taken out: %d", err)
	}
	if got, err := edit.Resolve(full, e, api.Up); got != (api.Change{Lo: 1, Hi: 5, Text: "four"}) || err != api.OK {
		t.Errorf("four bytes are taken out: %v, %d", got, err)
	}
}

func TestP12_2Examples(t *testing.T) {
	t.Parallel()
	for _, c := range []struct {
		text   string
		change api.Change
		want   string
	}{
		{face, api.Change{Lo: 3, Hi: 3, Text: "x"}, "a\xf0\x9fx\x98\x80b"},
		{"a\xf0\x9fx\x98\x80b", api.Change{Lo: 3, Hi: 4}, face},
		{face, api.Change{Lo: 0, Hi: 6}, ""},
		{"", api.Change{Text: "\r"}, "\r"},
		{"a\r\nb", api.Change{Lo: 2, Hi: 2, Text: "x"}, "a\rx\nb"},
		{"a\rx\nb", api.Change{Lo: 2, Hi: 3}, "a\r\nb"},
		{"\xe2\xac", api.Change{Lo: 1, Hi: 1, Text: "\x82"}, "\u20ac"},
	} {
		got, err := edit.Apply(made(t, []byte(c.text)), c.change)
		if err != api.OK || string(textOf(t, got)) != c.want {
			t.Errorf("%q, %v: %d, want %q", c.text, c.change, err, c.want)
		}
	}
}

// Apply, Inverse and Grown at every two places of short texts, and outside.
func TestP12_2And3And6ShortTexts(t *testing.T) {
	t.Parallel()
	some := 0
	fewTexts(func(b []byte) {
		m, r := modelOf(b), made(t, b)
		for _, lo := range around(len(b)) {
			for _, hi := range around(len(b)) {
				some++
				m.holdChange(t, r, api.Change{Lo: lo, Hi: hi, Text: putTexts[some%len(putTexts)]})
				if lo == hi {
					m.holdChange(t, r, api.Change{Lo: lo, Hi: hi, Text: putTexts[some/7%len(putTexts)]})
				}
			}
		}
	})
}

func TestP12_2And3And6LongTexts(t *testing.T) {
	t.Parallel()
	longTexts(func(name string, b []byte) {
		m := modelOf(b)
		rng := rand.New(rand.NewSource(int64(len(b))))
		for i, w := range ways {
			if i%3 != len(b)%3 {
				continue
			}
			r := w.make(t, b)
			places := append(fewPlaces(len(b)), len(b)+1, -1)
			for range 12 {
				lo, hi := places[rng.Intn(len(places))], places[rng.Intn(len(places))]
				text := putTexts[rng.Intn(len(putTexts))]
				if rng.Intn(5) == 0 {
					text = string(steps(rng.Intn(9000), rng.Int63()))
				}
				m.holdChange(t, r, api.Change{Lo: lo, Hi: hi, Text: text})
				if lo > hi {
					m.holdChange(t, r, api.Change{Lo: hi, Hi: lo, Text: text})
				}
			}
		}
	})
}

// One change, in every call that takes one: ErrNil, then ErrRange, then ErrLong.
func TestP12_2And3And6Errors(t *testing.T) {
	t.Parallel()
	long := tooLong()
	hold := func(name string, r *rope.Rope, c api.Change, want api.Errno) {
		t.Helper()
		if got, err := edit.Apply(r, c); got != nil || err != want {
			t.Errorf("%s: Apply: %v, %d, want %d", name, got, err, want)
		}
		if got, err := edit.Inverse(r, c); got != (api.Change{}) || err != want {
			t.Errorf("%s: Inverse: %d, want %d", name, err, want)
		}
		if got, err := edit.Grown(r, c); got != (api.Sizes{}) || err != want {
			t.Errorf("%s: Grown: %v, %d, want %d", name, got, err, want)
		}
	}
	hold("nil", nil, api.Change{}, api.ErrNil)
	hold("nil, range, long", nil, api.Change{Lo: 2, Hi: 1, Text: long}, api.ErrNil)
	for _, text := range []string{"", face} {
		r := made(t, []byte(text))
		for _, p := range append(noPlaces, len(text)+1) {
			hold("far", r, api.Change{Lo: p, Hi: p}, api.ErrRange)
			hold("lo far", r, api.Change{Lo: p, Hi: len(text)}, api.ErrRange)
			hold("hi far", r, api.Change{Lo: 0, Hi: p, Text: long}, api.ErrRange)
		}
		hold("long", r, api.Change{Lo: 0, Hi: len(text), Text: long}, api.ErrLong)
		hold("hi ahead", r, api.Change{Lo: len(text), Hi: len(text) - 1}, api.ErrRange)
	}
	full := doubled(t, []byte(face+"\r\n"), 25)
	hold("full and one", full, api.Change{Text: "x"}, api.ErrLong)
	hold("full and one at the end", full, api.Change{Lo: full.Len(), Hi: full.Len(), Text: "x"}, api.ErrLong)
	hold("full, one for none", full, api.Change{Lo: 7, Hi: 8, Text: "xy"}, api.ErrLong)
	hold("full, range", full, api.Change{Lo: 7, Hi: api.MaxText + 1, Text: "xy"}, api.ErrRange)
}

// A text of MaxText bytes may be changed, and one may come to have as many.
func TestP12_2And3And6MaxText(t *testing.T) {
	t.Parallel()
	full := doubled(t, []byte(face+"\r\n"), 25)
	half := full.Len() / 2
	c := api.Change{Lo: half - 1, Hi: half, Text: "x"}
	got, err := edit.Apply(full, c)
	if err != api.OK || got.Len() != api.MaxText {
		t.Fatalf("%d, %d", got.Len(), err)
	}
	if near, _ := got.Bytes(half-3, half+2); string(near) != "b\rxa\xf0" {
		t.Errorf("%q", near)
	}
	if back, err := edit.Inverse(full, c); back != (api.Change{Lo: half - 1, Hi: half, Text: "\n"}) || err != api.OK {
		t.Errorf("%v, %d", back, err)
	}
	if z, err := edit.Grown(full, c); z != (api.Sizes{}) || err != api.OK {
		t.Errorf("%+v, %d", z, err)
	}
	if z, err := edit.Grown(full, api.Change{Lo: half - 2, Hi: half - 1}); z != (api.Sizes{Bytes: -1, Runes: -1, Units: -1}) || err != api.OK {
		t.Errorf("%+v, %d", z, err)
	}
	less, _ := split(t, full, api.MaxText-3)
	if z, err := edit.Grown(less, api.Change{Lo: 2, Hi: 2, Text: "\r\rx"}); z != (api.Sizes{Bytes: 3, Runes: 6, Units: 5, Ends: 2}) || err != api.OK {
		t.Errorf("%+v, %d", z, err)
	}
	if all, err := edit.Apply(less, api.Change{Lo: 2, Hi: 2, Text: "\r\rx"}); err != api.OK || all.Len() != api.MaxText {
		t.Errorf("%d", err)
	}
}

func TestP12_3Example(t *testing.T) {
	t.Parallel()
	r := made(t, []byte(face))
	if got, err := edit.Inverse(r, api.Change{Lo: 1, Hi: 5, Text: "yz"}); got != (api.Change{Lo: 1, Hi: 3, Text: "\U0001F600"}) || err != api.OK {
		t.Errorf("%v, %d", got, err)
	}
}

// Behind a change, and what takes it back, the text is again what it was; and behind what takes that back, what it was in between.
func TestP12_3And7ThereAndBack(t *testing.T) {
	t.Parallel()
	hold := func(r *rope.Rope, c api.Change) {
		t.Helper()
		back, err := edit.Inverse(r, c)
		if err != api.OK {
			t.Fatal(err)
		}
		there, err := edit.Apply(r, c)
		if err != api.OK {
			t.Fatal(err)
		}
		again, err := edit.Apply(there, back)
		if err != api.OK || !rope.Same(again, r) {
			t.Fatalf("%s, %v, back by %v: %s, %d", short(textOf(t, r)), c, back, short(textOf(t, again)), err)
		}
		forth, err := edit.Inverse(there, back)
		if err != api.OK || forth != c {
			t.Fatalf("%v, back by %v, forth by %v, %d", c, back, forth, err)
		}
		gone, _ := edit.Grown(r, c)
		come, err := edit.Grown(there, back)
		if err != api.OK || come != (api.Sizes{Bytes: -gone.Bytes, Runes: -gone.Runes, Units: -gone.Units, Ends: -gone.Ends}) {
			t.Fatalf("%s, %v: grown by %+v, and back by %+v", short(textOf(t, r)), c, gone, come)
		}
	}
	for n := range 4 {
		texts(n, leastBytes, func(b []byte) {
			r := made(t, b)
			for lo := range n + 1 {
				for hi := lo; hi <= n; hi++ {
					for _, text := range putTexts {
						hold(r, api.Change{Lo: lo, Hi: hi, Text: text})
					}
				}
			}
		})
	}
	rng := rand.New(rand.NewSource(3))
	for _, w := range ways {
		r := w.make(t, steps(6000, 3))
		for range 40 {
			lo := rng.Intn(r.Len() + 1)
			c := api.Change{Lo: lo, Hi: lo + rng.Intn(r.Len()-lo+1), Text: string(steps(rng.Intn(5000), rng.Int63()))}
			hold(r, c)
			r, _ = edit.Apply(r, c)
		}
	}
}

// Sizes grow by what is counted of the new text, not by what the put text counts alone.
func TestP12_6Examples(t *testing.T) {
	t.Parallel()
	for _, c := range []struct {
		text   string
		change api.Change
		want   api.Sizes
	}{
		{face, api.Change{Lo: 3, Hi: 3, Text: "x"}, api.Sizes{Bytes: 1, Runes: 4, Units: 3}},
		{"a\xf0\x9fx\x98\x80b", api.Change{Lo: 3, Hi: 4}, api.Sizes{Bytes: -1, Runes: -4, Units: -3}},
		{"\xe2\xac", api.Change{Lo: 1, Hi: 1, Text: "\x82"}, api.Sizes{Bytes: 1, Runes: -1, Units: -1}},
		{"\u20ac", api.Change{Lo: 1, Hi: 2, Text: "\x82"}, api.Sizes{}},
		{"\u20ac", api.Change{Lo: 2, Hi: 3}, api.Sizes{Bytes: -1, Runes: 1, Units: 1}},
		{"a\r\nb", api.Change{Lo: 2, Hi: 2, Text: "x"}, api.Sizes{Bytes: 1, Runes: 1, Units: 1, Ends: 1}},
		{"a\rx\nb", api.Change{Lo: 2, Hi: 3}, api.Sizes{Bytes: -1, Runes: -1, Units: -1, Ends: -1}},
		{"\r\r", api.Change{Lo: 1, Hi: 1, Text: "\n"}, api.Sizes{Bytes: 1, Runes: 1, Units: 1}},
		{"\r\n", api.Change{Lo: 1, Hi: 1, Text: "\n\r"}, api.Sizes{Bytes: 2, Runes: 2, Units: 2, Ends: 1}},
		{face, api.Change{Lo: 0, Hi: 6}, api.Sizes{Bytes: -6, Runes: -3, Units: -4}},
		{face, api.Change{Lo: 2, Hi: 2}, api.Sizes{}},
		{"", api.Change{Text: face + "\r\n"}, api.Sizes{Bytes: 8, Runes: 5, Units: 6, Ends: 1}},
	} {
		if got, err := edit.Grown(made(t, []byte(c.text)), c.change); got != c.want || err != api.OK {
			t.Errorf("%q, %v: %+v, %d, want %+v", c.text, c.change, got, err, c.want)
		}
	}
}

// Edits by unlike rulers whose places are the same have one change, in every mode.
func TestP12_7UnlikeRulers(t *testing.T) {
	t.Parallel()
	hold := func(r *rope.Rope, lo, hi edge, text string) {
		t.Helper()
		want := api.Change{Lo: lo.bytes, Hi: hi.bytes, Text: text}
		for _, u := range rulers {
			for _, mode := range modes {
				e := api.Edit{Ruler: u, Lo: lo.by(u), Hi: hi.by(u), Text: text}
				if got, err := edit.Resolve(r, e, mode); got != want || err != api.OK {
					t.Fatalf("%s: Resolve(%v, %d): %v, %d, want %v", short(textOf(t, r)), e, mode, got, err, want)
				}
			}
		}
	}
	fewTexts(func(b []byte) {
		m, r := modelOf(b), made(t, b)
		for i, lo := range m.edges {
			for _, hi := range m.edges[i:] {
				hold(r, lo, hi, fmt.Sprint(i))
			}
		}
	})
	rng := rand.New(rand.NewSource(7))
	longTexts(func(_ string, b []byte) {
		m := modelOf(b)
		for range 4 {
			r := ways[rng.Intn(len(ways))].make(t, b)
			i := rng.Intn(len(m.edges))
			hold(r, m.edges[i], m.edges[i+rng.Intn(len(m.edges)-i)], "\xf0")
		}
	})
}

// Long rows of edits by any ruler and mode, each in the text behind the one ahead of it; all texts on the way stay as they are.
func TestP12_7Rows(t *testing.T) {
	t.Parallel()
	for seed := range int64(6) {
		rng := rand.New(rand.NewSource(seed))
		s := &scripts{}
		s.add(made(t, nil), nil)
		for range 120 {
			r, b := s.ropes[len(s.ropes)-1], s.texts[len(s.texts)-1]
			m := modelOf(b)
			u, mode := rulers[rng.Intn(3)], modes[rng.Intn(3)]
			lo := rng.Intn(m.size(u) + 1)
			e := api.Edit{Ruler: u, Lo: lo, Hi: min(m.size(u), lo+rng.Intn(200)*rng.Intn(3)), Text: string(steps(rng.Intn(2)*rng.Intn(4000)+rng.Intn(4), rng.Int63()))}
			m.holdResolve(t, r, e, mode)
			c, err := edit.Resolve(r, e, mode)
			if err != api.OK {
				continue
			}
			m.holdChange(t, r, c)
			behind, _ := edit.Apply(r, c)
			s.add(behind, slices.Concat(b[:c.Lo], []byte(c.Text), b[c.Hi:]))
		}
		for i, r := range s.ropes {
			if !slices.Equal(textOf(t, r), s.texts[i]) {
				t.Fatalf("text %d became %s", i, short(textOf(t, r)))
			}
		}
	}
}
