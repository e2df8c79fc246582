package words_test

import (
	"slices"
	"strings"
	"testing"

	"galley/api"
	"galley/words"
)

// bad are bytes that are no part of an encoding where they stand, in all lengths.
var bad = []string{"\xff", "\xe2\x82", "\xf0\x9f\x98", "\xc0\x80", "\xed\xa0\x80", "\xf4\x90\x80\x80"}

// noPlaces are places that a text of n bytes hasn't.
func noPlaces(n int) []int {
	return []int{-1, n + 1, n + 2, -2, -n - 1, 1 << 31, 1 << 32, -1 << 32, 1<<32 + 1, least, least + 1, greatest - 1, greatest}
}

func TestP22_1Bytes(t *testing.T) {
	for r := rune(0); r < 0x80; r++ {
		for _, width := range []int{1, 0, -1, 2, 3, 4, 5, least, greatest} {
			if got, want := words.Kind(api.Step{Rune: r, Width: width, Whole: true}), kindOf(r); got != want {
				t.Errorf("%x of width %d: %d, want %d", r, width, got, want)
			}
		}
	}
	for kind, of := range map[api.WordKind]string{
		api.BlankKind: "\t ",
		api.EndKind:   "\n\r",
		api.WordRunes: wordRunes,
		api.OtherKind: "\x00\x01\b\v\f\x0e\x1f!\"#$%&'()*+,-./:;<=>?@[\\]^`{|}~\x7f",
	} {
		for _, r := range of {
			if got := words.Kind(api.Step{Rune: r, Width: 1, Whole: true}); got != kind {
				t.Errorf("%q: %d, want %d", r, got, kind)
			}
		}
	}
}

func TestP22_1GreatAndSmallRunes(t *testing.T) {
	for _, r := range []rune{0x80, 0x81, 0x85, 0xa0, 0xad, 0xd7, 0xe9, 0xff, 0x100, 0x2028, 0x2029, 0x3000, 0xd7ff, 0xd800, 0xdfff, 0xe000, 0xfeff, 0xfffd, 0xffff, 0x10000, 0x1f600, 0x10ffff, 0x110000, 1<<31 - 1} {
		for _, width := range []int{1, 2, 3, 4, 0, -7} {
			if got := words.Kind(api.Step{Rune: r, Width: width, Whole: true}); got != api.WordRunes {
				t.Errorf("%x: %d", r, got)
			}
		}
	}
	for r := rune(0x80); r <= 0x10ffff; r++ {
		if got := words.Kind(api.Step{Rune: r, Width: 3, Whole: true}); got != api.WordRunes {
			t.Fatalf("%x: %d", r, got)
		}
	}
	for _, r := range []rune{-1, -5, -0x20, -'a', 'a' - 1<<16, '0' - 256, -256, ' ' - 256, -1 << 31, ' ' - 1<<31, 'a' - 1<<31} {
		if got := words.Kind(api.Step{Rune: r, Width: 1, Whole: true}); got != api.OtherKind {
			t.Errorf("%x: %d", r, got)
		}
	}
}

func TestP22_1NotWhole(t *testing.T) {
	for _, r := range []rune{0, ' ', '\t', '\n', '\r', 'a', 'Z', '5', '_', '-', 0x7f, 0x80, 0xe9, 0xfffd, 0x10ffff, -1, -1 << 31, 1<<31 - 1} {
		for _, width := range []int{1, 0, 3, -1, 4, least, greatest} {
			if got := words.Kind(api.Step{Rune: r, Width: width}); got != api.BadKind {
				t.Errorf("%x of width %d: %d", r, width, got)
			}
		}
	}
	if got := words.Kind(api.Step{}); got != api.BadKind {
		t.Errorf("the zero step: %d", got)
	}
}

func TestP22_2Examples(t *testing.T) {
	for text, want := range map[string][]api.Hit{
		example:                   {{Lo: 0, Hi: 2}, {Lo: 3, Hi: 6}, {Lo: 8, Hi: 11}},
		"":                        nil,
		" ":                       nil,
		"\r\n-\xff":               nil,
		"a":                       {{Lo: 0, Hi: 1}},
		"\u20ac":                  {{Lo: 0, Hi: 3}},
		" a":                      {{Lo: 1, Hi: 2}},
		"a ":                      {{Lo: 0, Hi: 1}},
		"a\xffb":                  {{Lo: 0, Hi: 1}, {Lo: 2, Hi: 3}},
		"\u20ac\xe2\x82":          {{Lo: 0, Hi: 3}},
		"\xe2\x82\u20ac":          {{Lo: 2, Hi: 5}},
		"\ufffda":                 {{Lo: 0, Hi: 4}},
		"it's":                    {{Lo: 0, Hi: 2}, {Lo: 3, Hi: 4}},
		"a\u00a0b\u2028c":         {{Lo: 0, Hi: 8}},
		"a.b":                     {{Lo: 0, Hi: 1}, {Lo: 2, Hi: 3}},
		"a\r\nb\nc":               {{Lo: 0, Hi: 1}, {Lo: 3, Hi: 4}, {Lo: 5, Hi: 6}},
		strings.Repeat("\xff", 9): nil,
	} {
		if got := words.All([]byte(text)); !slices.Equal(got, want) {
			t.Errorf("%q: %v, want %v", text, got, want)
		}
	}
	if got := words.All(nil); len(got) != 0 {
		t.Errorf("of nil: %v", got)
	}
}

// Bytes that are no encoding are of no word, and end one on either side.
func TestP22_2BadBytes(t *testing.T) {
	for _, s := range bad {
		b := []byte("\u00e9" + s + "_")
		want := []api.Hit{{Lo: 0, Hi: 2}, {Lo: 2 + len(s), Hi: 3 + len(s)}}
		if got := words.All(b); !slices.Equal(got, want) {
			t.Errorf("%q: %v, want %v", b, got, want)
		}
		for place := 2; place < 2+len(s); place++ {
			if hit, kind, e := words.Around(b, place); hit != (api.Hit{Lo: 2, Hi: 2 + len(s)}) || kind != api.BadKind || e != api.OK {
				t.Errorf("Around %q, %d: %v %d %d", b, place, hit, kind, e)
			}
		}
	}
}

func TestP22_3Examples(t *testing.T) {
	for _, c := range []struct {
		text  string
		place int
		want  api.Hit
		kind  api.WordKind
	}{
		{example, 4, api.Hit{Lo: 3, Hi: 6}, 3},
		{example, 9, api.Hit{Lo: 8, Hi: 11}, 3},
		{example, 11, api.Hit{Lo: 8, Hi: 11}, 3},
		{example, 2, api.Hit{Lo: 2, Hi: 3}, 1},
		{example, 6, api.Hit{Lo: 6, Hi: 7}, 4},
		{example, 0, api.Hit{Lo: 0, Hi: 2}, 3},
		{example, 7, api.Hit{Lo: 7, Hi: 8}, 1},
		{"\xff\x80", 0, api.Hit{Lo: 0, Hi: 2}, 5},
		{"\xff\x80", 2, api.Hit{Lo: 0, Hi: 2}, 5},
		{"", 0, api.Hit{}, 0},
		{"a\r\n\n\r\rb", 3, api.Hit{Lo: 1, Hi: 6}, 2},
		{"\r\n", 1, api.Hit{Lo: 0, Hi: 2}, 2},
		{"\r\n", 2, api.Hit{Lo: 0, Hi: 2}, 2},
		{" \t \t", 4, api.Hit{Lo: 0, Hi: 4}, 1},
		{" \t\n\t", 2, api.Hit{Lo: 2, Hi: 3}, 2},
		{"a\U0001f600-", 2, api.Hit{Lo: 0, Hi: 5}, 3},
		{"a\U0001f600-", 4, api.Hit{Lo: 0, Hi: 5}, 3},
		{"a\U0001f600-", 5, api.Hit{Lo: 5, Hi: 6}, 4},
		{"a\U0001f600-", 6, api.Hit{Lo: 5, Hi: 6}, 4},
		{"\U0001f600", 4, api.Hit{Lo: 0, Hi: 4}, 3},
		{"\xe2\x82", 1, api.Hit{Lo: 0, Hi: 2}, 5},
		{"\u20ac\x82", 3, api.Hit{Lo: 3, Hi: 4}, 5},
		{"\u20ac\x82", 2, api.Hit{Lo: 0, Hi: 3}, 3},
	} {
		if hit, kind, e := words.Around([]byte(c.text), c.place); hit != c.want || kind != c.kind || e != api.OK {
			t.Errorf("%q, %d: %v %d %d, want %v %d", c.text, c.place, hit, kind, e, c.want, c.kind)
		}
	}
}

func TestP22_4Examples(t *testing.T) {
	for _, c := range []struct {
		text              string
		place, next, prev int
	}{
		{example, 0, 3, 0}, {example, 3, 8, 0}, {example, 9, 11, 8}, {example, 11, 11, 8}, {example, 8, 11, 3}, {example, 1, 3, 0}, {example, 10, 11, 8}, {example, 6, 8, 3},
		{"", 0, 0, 0},
		{"  ", 0, 2, 0}, {"  ", 1, 2, 0}, {"  ", 2, 2, 0},
		{" a", 0, 1, 0}, {" a", 1, 2, 0}, {" a", 2, 2, 1},
		// A place that a word's first step goes over is behind its beginning.
		{"-\u20ac", 2, 4, 1}, {"-\u20ac", 3, 4, 1}, {"-\u20ac", 1, 4, 0}, {"-\u20ac", 0, 1, 0},
		{"\u20ac-", 1, 4, 0}, {"\u20ac b", 2, 4, 0}, {"a \u20ac", 2, 5, 0}, {"a \u20ac", 3, 5, 2},
		{"\xffa\xff", 0, 1, 0}, {"\xffa\xff", 1, 3, 0}, {"\xffa\xff", 3, 3, 1},
	} {
		b := []byte(c.text)
		if got, e := words.Next(b, c.place); got != c.next || e != api.OK {
			t.Errorf("Next of %q, %d: %d %d, want %d", c.text, c.place, got, e, c.next)
		}
		if got, e := words.Prev(b, c.place); got != c.prev || e != api.OK {
			t.Errorf("Prev of %q, %d: %d %d, want %d", c.text, c.place, got, e, c.prev)
		}
	}
}

// ErrRange, with nothing beside it, of places that are none, for texts of all kinds.
func TestP22_3To5NoPlaces(t *testing.T) {
	for _, text := range []string{"", "a", " ", "\u20ac", "\xff", example, "a\r\n"} {
		b := []byte(text)
		for _, place := range noPlaces(len(b)) {
			if hit, kind, e := words.Around(b, place); hit != (api.Hit{}) || kind != 0 || e != api.ErrRange {
				t.Errorf("Around %q, %d: %v %d %d", text, place, hit, kind, e)
			}
			if got, e := words.Next(b, place); got != 0 || e != api.ErrRange {
				t.Errorf("Next of %q, %d: %d %d", text, place, got, e)
			}
			if got, e := words.Prev(b, place); got != 0 || e != api.ErrRange {
				t.Errorf("Prev of %q, %d: %d %d", text, place, got, e)
			}
			for _, w := range []int{1, 8, api.MaxLine, 0, -1} {
				if got, e := words.Column(b, place, w); got != 0 || e != api.ErrRange {
					t.Errorf("Column of %q, %d, %d: %d %d", text, place, w, got, e)
				}
			}
		}
	}
}
