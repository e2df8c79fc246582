package find_test

import (
	"slices"
	"strings"
	"testing"

	"galley/api"
	"galley/delta"
	"galley/find"
	"galley/rope"
)

func keep(n int) api.Op   { return api.Op{Kind: api.Keep, N: n} }
func drop(n int) api.Op   { return api.Op{Kind: api.Drop, N: n} }
func put(s string) api.Op { return api.Op{Kind: api.Put, Text: s} }

func TestP20_1ExamplesOfReplace(t *testing.T) {
	for _, c := range []struct {
		s, needle, text string
		fold            bool
		want            api.Delta
	}{
		{example, "aa", "\u20ac", false, api.Delta{keep(7), put("\u20ac"), drop(2), keep(3)}},
		{example, "X", "", true, api.Delta{keep(1), drop(1), keep(4), drop(1), keep(5)}},
		{example, "x", "yz", false, api.Delta{keep(6), put("yz"), drop(1), keep(5)}},
		{example, "q", "yz", false, api.Delta{keep(12)}},
		{example, "\xac", "yz", false, api.Delta{keep(12)}},
		{example, example, "", false, api.Delta{drop(12)}},
		{example, example, "y", false, api.Delta{put("y"), drop(12)}},
		{example, example + "a", "y", false, api.Delta{keep(12)}},
		// Hits that meet are one change.
		{"aaaa", "aa", "b", false, api.Delta{put("bb"), drop(4)}},
		{"aaaaa", "aa", "aaa", false, api.Delta{put("aaaaaa"), drop(4), keep(1)}},
		{"aaaa", "aa", "", false, api.Delta{drop(4)}},
		// It stands as it is put, in what is put, and over what is put.
		{"ab", "a", "a", false, api.Delta{put("a"), drop(1), keep(1)}},
		{"ab", "a", "aa", false, api.Delta{put("aa"), drop(1), keep(1)}},
		{"aabb", "ab", "", false, api.Delta{keep(1), drop(2), keep(1)}},
		{"aabb", "ab", "a", false, api.Delta{keep(1), put("a"), drop(2), keep(1)}},
		{"Ab", "a", "a", true, api.Delta{put("a"), drop(1), keep(1)}},
		// What is put may be a piece of an encoding, and make one.
		{"\xe2x\xac", "x", "\x82", false, api.Delta{keep(1), put("\x82"), drop(1), keep(1)}},
		{"", "a", "b", false, nil},
	} {
		r := made(t, c.s)
		if got, err := find.Replace(r, []byte(c.needle), []byte(c.text), c.fold); !slices.Equal(got, c.want) || err != api.OK {
			t.Errorf("Replace(%+q, %+q, %+q, %v): %v, %d, want %v", c.s, c.needle, c.text, c.fold, got, err, c.want)
		}
		holdReplace(t, r, c.s, c.needle, c.text, c.fold)
	}
}

// All short texts and needles, with texts of no byte, the needle itself, and others.
func TestP20_1ReplaceShortTexts(t *testing.T) {
	t.Parallel()
	for _, some := range [][]string{{"a", "A", "\xe2", "\x82", "\xac"}, {"a", "b"}, {"a", "\u00e9", "\xc3", "\xa9"}} {
		needles := texts(1, 2, some...)
		for _, s := range texts(0, 4, some...) {
			r := made(t, s)
			for _, needle := range needles {
				for _, text := range []string{"", needle, needle + needle, "a" + needle, "\u20ac", "\xac"} {
					holdReplace(t, r, s, needle, text, false)
					holdReplace(t, r, s, needle, text, true)
				}
			}
		}
	}
}

// By the needle's own bytes the text is what it was.
func TestP20_4ByItself(t *testing.T) {
	t.Parallel()
	for i, s := range append(longTexts()[:14], texts(0, 4, "a", "\xe2", "\x82", "\xac")...) {
		r := made(t, s)
		for _, needle := range append(pieces[:len(pieces):len(pieces)], "aa", "ab", "abab") {
			d, err := find.Replace(r, []byte(needle), []byte(needle), false)
			if made, _ := delta.Apply([]byte(s), d); string(made) != s || err != api.OK || !delta.Valid(d) {
				t.Fatalf("text %d: Replace by %+q: %s, %d", i, needle, told(d), err)
			}
		}
	}
}

// Of the new text nothing is asked: the needle may stand there again.
func TestP20_4StandsAgain(t *testing.T) {
	for _, c := range []struct {
		s, needle, text, made string
		again                 int
	}{
		{"aabb", "ab", "", "ab", 1},
		{"ab", "a", "aa", "aab", 2},
		{"aaa", "aa", "a", "aa", 1},
		{"xax", "a", "xax", "xxaxx", 1},
		{"\xe2xx\xac", "xx", "\x82", "\u20ac", 0},
		{"\xe2x\x82\x82\xac", "x\x82", "", "\u20ac", 0},
	} {
		d, _ := find.Replace(made(t, c.s), []byte(c.needle), []byte(c.text), false)
		b, err := delta.Apply([]byte(c.s), d)
		if string(b) != c.made || err != api.OK {
			t.Errorf("Replace(%+q, %+q, %+q) makes %+q, %d, want %+q", c.s, c.needle, c.text, b, err, c.made)
		}
		if n, _ := find.Count(made(t, string(b)), []byte(c.needle), false); n != c.again {
			t.Errorf("Replace(%+q, %+q, %+q): then it stands %d times, want %d", c.s, c.needle, c.text, n, c.again)
		}
	}
}

// Texts that would be just as long as may be, and longer by one byte.
func TestP20_1ReplaceTooLong(t *testing.T) {
	const times = 1 << 10
	s := strings.Repeat("ax", times)
	text := strings.Repeat("y", api.MaxText/times-1)
	for _, c := range []struct {
		s, needle, text string
		fold            bool
		err             api.Errno
	}{
		{s, "a", text, false, api.OK},
		{s, "A", text, true, api.OK},
		{s + "x", "a", text, false, api.ErrLong},
		{s + "x", "A", text, true, api.ErrLong},
		{s, "a", text + "y", false, api.ErrLong},
		// With a hit less there is room.
		{s[1:], "a", text + "y", false, api.OK},
		// Too long for one alone, or for all of them, if it stands nowhere.
		{s, "b", text + text, false, api.OK},
		{s, "A", text + text, false, api.OK},
	} {
		hits := hitsOf(standing(c.s, c.needle, c.fold), len(c.needle))
		want, wrong := delta.Of(len(c.s), changesOf(hits, c.text))
		if d, err := find.Replace(made(t, c.s), []byte(c.needle), []byte(c.text), c.fold); err != c.err || err != wrong || !slices.Equal(d, want) {
			t.Errorf("Replace of %d times %q by %d bytes: %d operations, %d, want %d, %d", len(hits), c.needle, len(c.text), len(d), err, len(want), c.err)
		}
	}
}

// One text alone that is too long.
func TestP20_1ReplaceByTooLong(t *testing.T) {
	text := make([]byte, api.MaxText+1)
	for _, c := range []struct {
		s    string
		text []byte
		err  api.Errno
		want api.Delta
	}{
		{"xyz", text, api.OK, api.Delta{keep(3)}},
		{"xaz", text, api.ErrLong, nil},
		{"a", text, api.ErrLong, nil},
		{"aaa", text, api.ErrLong, nil},
		{"xa", text[1:], api.ErrLong, nil},
	} {
		if d, err := find.Replace(made(t, c.s), []byte("a"), c.text, false); err != c.err || !slices.Equal(d, c.want) {
			t.Errorf("Replace in %q by %d bytes: %d operations, %d, want %d", c.s, len(c.text), len(d), err, c.err)
		}
	}
	d, err := find.Replace(made(t, "a"), []byte("a"), text[1:], false)
	if from, to, _ := delta.Lens(d); from != 1 || to != api.MaxText || err != api.OK {
		t.Errorf("Replace by %d bytes: %d to %d, %d", api.MaxText, from, to, err)
	}
}

// greatest is a text of as many bytes as there may be: x everywhere, but for needles at its two ends and in its midst.
func greatest(t *testing.T, needle string) *rope.Rope {
	t.Helper()
	r := made(t, strings.Repeat("x", api.MaxLeaf))
	for r.Len() < api.MaxText {
		r = join(t, r, r)
	}
	for _, lo := range []int{0, api.MaxText / 2, api.MaxText - len(needle)} {
		r = replace(t, r, lo, lo+len(needle), needle)
	}
	return r
}

func TestP20_1GreatestText(t *testing.T) {
	t.Parallel()
	r := greatest(t, "\u20ac")
	const half, last = api.MaxText / 2, api.MaxText - 3
	needle := []byte("\u20ac")
	for from, want := range map[int]api.Hit{0: {Lo: 0, Hi: 3}, half - 5000: {Lo: half, Hi: half + 3}, last: {Lo: last, Hi: last + 3}, last - 9: {Lo: last, Hi: last + 3}} {
		if h, ok, err := find.Next(r, needle, from, false); h != want || !ok || err != api.OK {
			t.Errorf("Next(%d): %v, %v, %d, want %v", from, h, ok, err, want)
		}
	}
	for from, want := range map[int]api.Hit{3: {Lo: 0, Hi: 3}, half + 5000: {Lo: half, Hi: half + 3}, last + 3: {Lo: last, Hi: last + 3}, 90: {Lo: 0, Hi: 3}} {
		if h, ok, err := find.Prev(r, needle, from, false); h != want || !ok || err != api.OK {
			t.Errorf("Prev(%d): %v, %v, %d, want %v", from, h, ok, err, want)
		}
	}
	if h, ok, err := find.Next(r, needle, last+1, false); ok || err != api.OK {
		t.Errorf("Next: %v, %v, %d", h, ok, err)
	}
	for text, wrong := range map[string]api.Errno{"abc": api.OK, "abcd": api.ErrLong} {
		d, err := find.Replace(r, needle, []byte(text), false)
		var want api.Delta
		if wrong == api.OK {
			want = api.Delta{put(text), drop(3), keep(half - 3), put(text), drop(3), keep(half - 6), put(text), drop(3)}
		}
		if !slices.Equal(d, want) || err != wrong {
			t.Errorf("Replace by %q: %v, %d, want %v, %d", text, d, err, want, wrong)
		}
	}
}
