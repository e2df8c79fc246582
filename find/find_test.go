package find_test

import (
	"math"
	"slices"
	"strings"
	"testing"

	"galley/api"
	"galley/find"
	"galley/rope"
)

// example is the text of the chapter's examples.
const example = "aXa\u20acxaa\xe2\x82a"

func TestP20_1ExamplesOfAllAndCount(t *testing.T) {
	for _, c := range []struct {
		text, needle string
		fold         bool
		want         []api.Hit
	}{
		{example, "a", false, []api.Hit{{Lo: 0, Hi: 1}, {Lo: 2, Hi: 3}, {Lo: 7, Hi: 8}, {Lo: 8, Hi: 9}, {Lo: 11, Hi: 12}}},
		{example, "aa", false, []api.Hit{{Lo: 7, Hi: 9}}},
		{example, "X", true, []api.Hit{{Lo: 1, Hi: 2}, {Lo: 6, Hi: 7}}},
		{example, "X", false, []api.Hit{{Lo: 1, Hi: 2}}},
		{example, "x", false, []api.Hit{{Lo: 6, Hi: 7}}},
		{example, "\x82", false, []api.Hit{{Lo: 10, Hi: 11}}},
		{example, "\xe2\x82", false, []api.Hit{{Lo: 9, Hi: 11}}},
		{example, "\xe2", false, []api.Hit{{Lo: 9, Hi: 10}}},
		{example, "\x82\xac", false, nil},
		{example, "\xac", false, nil},
		{example, "\u20ac", false, []api.Hit{{Lo: 3, Hi: 6}}},
		// Its first place or its last one alone is no edge.
		{example, "\xacx", false, nil},
		{example, "a\xe2", false, []api.Hit{{Lo: 8, Hi: 10}}},
		{example, "a\u20ac", false, []api.Hit{{Lo: 2, Hi: 6}}},
		{example, "q", false, nil},
		{example, example, false, []api.Hit{{Lo: 0, Hi: 12}}},
		{example, example + "a", false, nil},
		{example, strings.ToUpper(example[:3]) + example[3:], true, []api.Hit{{Lo: 0, Hi: 12}}},
		{"aaaa", "aa", false, []api.Hit{{Lo: 0, Hi: 2}, {Lo: 2, Hi: 4}}},
		{"aaaaa", "aa", false, []api.Hit{{Lo: 0, Hi: 2}, {Lo: 2, Hi: 4}}},
		{"ababab", "abab", false, []api.Hit{{Lo: 0, Hi: 4}}},
		{"abababab", "abab", false, []api.Hit{{Lo: 0, Hi: 4}, {Lo: 4, Hi: 8}}},
		{"xababab", "abab", false, []api.Hit{{Lo: 1, Hi: 5}}},
		{"\xe2\x82\xac", "\x82", false, nil},
		{"\xe2\x82\xac", "\xe2\x82", false, nil},
		{"\xe2\x82\x41", "\x82", false, []api.Hit{{Lo: 1, Hi: 2}}},
		{"\xe2\x82\x41", "\xe2\x82", false, []api.Hit{{Lo: 0, Hi: 2}}},
		{"\U0001F600\x9f\x98\x80", "\x9f\x98\x80", false, []api.Hit{{Lo: 4, Hi: 7}}},
		{"\xf0\x9f\x98\U0001F600", "\xf0\x9f\x98", false, []api.Hit{{Lo: 0, Hi: 3}}},
		{"\ufffd\xff", "\xff", false, []api.Hit{{Lo: 3, Hi: 4}}},
		{"\xff\ufffd", "\ufffd", false, []api.Hit{{Lo: 1, Hi: 4}}},
		// CR and LF are steps of their own.
		{"a\r\nb\r", "\r", false, []api.Hit{{Lo: 1, Hi: 2}, {Lo: 4, Hi: 5}}},
		{"a\r\nb\r", "\nb", false, []api.Hit{{Lo: 2, Hi: 4}}},
		{"\x00\x00", "\x00", false, []api.Hit{{Lo: 0, Hi: 1}, {Lo: 1, Hi: 2}}},
		{"", "a", false, nil},
		{"", "\xff\xff", true, nil},
	} {
		r := made(t, c.text)
		if got, err := find.All(r, []byte(c.needle), c.fold); !slices.Equal(got, c.want) || err != api.OK {
			t.Errorf("All(%+q, %+q, %v): %v, %d, want %v", c.text, c.needle, c.fold, got, err, c.want)
		}
		if n, err := find.Count(r, []byte(c.needle), c.fold); n != len(c.want) || err != api.OK {
			t.Errorf("Count(%+q, %+q, %v): %d, %d, want %d", c.text, c.needle, c.fold, n, err, len(c.want))
		}
		hold(t, r, c.text, c.needle, c.fold, everyPlace(len(c.text)))
	}
}

func TestP20_1ExamplesOfNext(t *testing.T) {
	for _, c := range []struct {
		text, needle string
		from         int
		want         api.Hit
		ok           bool
	}{
		{example, "a", 1, api.Hit{Lo: 2, Hi: 3}, true},
		{example, "a", 0, api.Hit{Lo: 0, Hi: 1}, true},
		{example, "a", 11, api.Hit{Lo: 11, Hi: 12}, true},
		{example, "a", 12, api.Hit{}, false},
		{example, "\x82", 0, api.Hit{Lo: 10, Hi: 11}, true},
		// From within an encoding.
		{example, "\x82", 4, api.Hit{Lo: 10, Hi: 11}, true},
		{example, "\xac", 5, api.Hit{}, false},
		{example, "x", 5, api.Hit{Lo: 6, Hi: 7}, true},
		{"\U0001F600\x80", "\x80", 3, api.Hit{Lo: 4, Hi: 5}, true},
		{"aaaa", "aa", 1, api.Hit{Lo: 1, Hi: 3}, true},
		{"aaaa", "aa", 2, api.Hit{Lo: 2, Hi: 4}, true},
		{"aaaa", "aa", 3, api.Hit{}, false},
		{"", "a", 0, api.Hit{}, false},
	} {
		if got, ok, err := find.Next(made(t, c.text), []byte(c.needle), c.from, false); got != c.want || ok != c.ok || err != api.OK {
			t.Errorf("Next(%+q, %+q, %d): %v, %v, %d, want %v, %v", c.text, c.needle, c.from, got, ok, err, c.want, c.ok)
		}
	}
}

func TestP20_1ExamplesOfPrev(t *testing.T) {
	for _, c := range []struct {
		text, needle string
		from         int
		want         api.Hit
		ok           bool
	}{
		{example, "a", 8, api.Hit{Lo: 7, Hi: 8}, true},
		{example, "a", 0, api.Hit{}, false},
		{example, "a", 1, api.Hit{Lo: 0, Hi: 1}, true},
		{example, "a", 12, api.Hit{Lo: 11, Hi: 12}, true},
		{example, "\x82", 12, api.Hit{Lo: 10, Hi: 11}, true},
		{example, "\x82", 10, api.Hit{}, false},
		// To within an encoding: what ends there ends at no edge.
		{example, "\xe2\x82", 5, api.Hit{}, false},
		{example, "\xe2", 4, api.Hit{}, false},
		{"\xf0\U0001F600", "\xf0", 2, api.Hit{Lo: 0, Hi: 1}, true},
		{"\U0001F600", "\xf0", 1, api.Hit{}, false},
		{"aaaa", "aa", 3, api.Hit{Lo: 1, Hi: 3}, true},
		{"aaaa", "aa", 4, api.Hit{Lo: 2, Hi: 4}, true},
		{"aaaa", "aa", 1, api.Hit{}, false},
		{"", "a", 0, api.Hit{}, false},
	} {
		if got, ok, err := find.Prev(made(t, c.text), []byte(c.needle), c.from, false); got != c.want || ok != c.ok || err != api.OK {
			t.Errorf("Prev(%+q, %+q, %d): %v, %v, %d, want %v, %v", c.text, c.needle, c.from, got, ok, err, c.want, c.ok)
		}
	}
}

// The errors in their order: a nil rope, a needle of no byte, a place that is none. Nothing else is told beside them.
func TestP20_1ErrorsInOrder(t *testing.T) {
	r, none := made(t, "abc"), made(t, "")
	for _, c := range []struct {
		name   string
		rope   *rope.Rope
		needle []byte
		from   int
		// Of Next and Prev, and of the others.
		near, other api.Errno
	}{
		{"nil rope", nil, []byte("a"), 0, api.ErrNil, api.ErrNil},
		{"nil rope, no place", nil, []byte("a"), -1, api.ErrNil, api.ErrNil},
		{"nil rope, no needle", nil, nil, 0, api.ErrNil, api.ErrNil},
		{"nil rope, empty needle, no place", nil, []byte{}, 1, api.ErrNil, api.ErrNil},
		{"no needle", r, nil, 0, api.ErrEmpty, api.ErrEmpty},
		{"empty needle", r, []byte{}, 3, api.ErrEmpty, api.ErrEmpty},
		{"spare room alone", r, []byte("abc")[:0], 0, api.ErrEmpty, api.ErrEmpty},
		{"no needle, -1", r, nil, -1, api.ErrEmpty, api.ErrEmpty},
		{"no needle, 4", r, nil, 4, api.ErrEmpty, api.ErrEmpty},
		{"no needle, no text", none, nil, 1, api.ErrEmpty, api.ErrEmpty},
		{"-1", r, []byte("a"), -1, api.ErrRange, api.OK},
		{"4", r, []byte("a"), 4, api.ErrRange, api.OK},
		{"least", r, []byte("a"), math.MinInt, api.ErrRange, api.OK},
		{"greatest", r, []byte("a"), math.MaxInt, api.ErrRange, api.OK},
		{"no text, 1", none, []byte("a"), 1, api.ErrRange, api.OK},
		{"no text, -1", none, []byte("a"), -1, api.ErrRange, api.OK},
		{"too long a needle, 4", r, []byte("abcd"), 4, api.ErrRange, api.OK},
		{"too long a needle, 3", r, []byte("abcd"), 3, api.OK, api.OK},
	} {
		for _, fold := range []bool{false, true} {
			if hits, err := find.All(c.rope, c.needle, fold); err != c.other || err != api.OK && len(hits) != 0 {
				t.Errorf("%s: All: %v, %d, want %d", c.name, hits, err, c.other)
			}
			if n, err := find.Count(c.rope, c.needle, fold); err != c.other || err != api.OK && n != 0 {
				t.Errorf("%s: Count: %d, %d, want %d", c.name, n, err, c.other)
			}
			for _, text := range []string{"", "x"} {
				if d, err := find.Replace(c.rope, c.needle, []byte(text), fold); err != c.other || err != api.OK && len(d) != 0 {
					t.Errorf("%s: Replace: %v, %d, want %d", c.name, d, err, c.other)
				}
			}
			for name, call := range map[string]func(r *rope.Rope, needle []byte, from int, fold bool) (api.Hit, bool, api.Errno){"Next": find.Next, "Prev": find.Prev} {
				if h, ok, err := call(c.rope, c.needle, c.from, fold); h != (api.Hit{}) || ok || err != c.near {
					t.Errorf("%s: %s: %v, %v, %d, want %d", c.name, name, h, ok, err, c.near)
				}
			}
		}
	}
}

// All texts of a few bytes, all needles of a few bytes, and every place.
func TestP20_1ShortTexts(t *testing.T) {
	for _, c := range []struct {
		most, needle int
		some         []string
	}{
		{4, 3, []string{"a", "A", "\xe2", "\x82", "\xac"}},
		{5, 4, []string{"\xf0", "\x9f", "\x98", "\x80"}},
		{6, 4, []string{"a", "\xc3", "\xa9"}},
		{8, 5, []string{"a", "b"}},
		{5, 3, []string{"a", "B", "b"}},
		{3, 2, []string{"a", "\u00e9", "\u20ac", "\U0001F600", "\xff", "\xe2", "\x82", "\xf0\x9f"}},
	} {
		t.Run(short(strings.Join(c.some, "")), func(t *testing.T) {
			t.Parallel()
			needles := texts(1, c.needle, c.some...)
			for _, s := range texts(0, c.most, c.some...) {
				r := made(t, s)
				for _, needle := range needles {
					if len(needle) > len(s)+2 {
						continue
					}
					for _, fold := range []bool{false, true} {
						hold(t, r, s, needle, fold, everyPlace(len(s)))
					}
				}
			}
		})
	}
}

// At each hit the needle stands, hits rise, none goes over another, and in what is left it doesn't stand. They are what Next answers, from 0 and from each hit's hi.
func TestP20_2HitsAndWhatIsLeft(t *testing.T) {
	t.Parallel()
	for i, s := range longTexts() {
		r := made(t, s)
		for _, needle := range append(pieces, "aa", "\x82\x82", "\xff\xff") {
			for _, fold := range []bool{false, true} {
				hits, _ := find.All(r, []byte(needle), fold)
				left(t, s, needle, fold, hits)
				var byNext []api.Hit
				h, ok, err := find.Next(r, []byte(needle), 0, fold)
				for ok {
					byNext = append(byNext, h)
					h, ok, err = find.Next(r, []byte(needle), h.Hi, fold)
				}
				if !slices.Equal(byNext, hits) || err != api.OK {
					t.Fatalf("text %d, %+q, %v: All %s, by Next %s, %d", i, needle, fold, told(hits), told(byNext), err)
				}
			}
		}
	}
}

// left holds what P20.2 says of hits.
func left(t *testing.T, s, needle string, fold bool, hits []api.Hit) {
	t.Helper()
	at := 0
	places := standing(s, needle, fold)
	for _, h := range append(slices.Clone(hits), api.Hit{Lo: len(s), Hi: len(s)}) {
		if h.Lo < at || h.Hi > len(s) {
			t.Fatalf("%s, %+q, %v: %s", short(s), needle, fold, told(hits))
		}
		for len(places) > 0 && places[0] < h.Lo {
			if places[0] >= at && places[0]+len(needle) <= h.Lo {
				t.Fatalf("%s, %+q, %v: it stands at %d too", short(s), needle, fold, places[0])
			}
			places = places[1:]
		}
		if h.Lo < len(s) && (len(places) == 0 || places[0] != h.Lo || h.Hi != h.Lo+len(needle)) {
			t.Fatalf("%s, %+q, %v: it doesn't stand at %v", short(s), needle, fold, h)
		}
		at = h.Hi
	}
}

// A needle all whose steps are whole stands wherever its bytes are, beside whatever bytes.
func TestP20_3ValidNeedles(t *testing.T) {
	t.Parallel()
	whole := texts(1, 2, "a", "\u00e9", "\u20ac", "\U0001F600", "\ufffd", "\r\n", "\U0010FFFF")
	beside := append(texts(0, 2, "\xf0", "\xe2", "\xc3", "\x9f", "\x80", "\xff", "a"), "\xf0\x9f\x98", "\x9f\x98\x80", "\xf4\x8f\xbf")
	for _, needle := range whole {
		for _, ahead := range beside {
			for _, behind := range beside {
				s := ahead + needle + behind
				hits := hold(t, made(t, s), s, needle, false, []int{0, len(ahead), len(s)})
				if !slices.ContainsFunc(hits, func(h api.Hit) bool { return h.Lo <= len(ahead) && len(ahead) < h.Hi }) {
					t.Fatalf("All(%+q, %+q): %v", s, needle, hits)
				}
				if h, ok, _ := find.Next(made(t, s), []byte(needle), len(ahead), false); !ok || h.Lo != len(ahead) {
					t.Fatalf("Next(%+q, %+q, %d): %v, %v", s, needle, len(ahead), h, ok)
				}
			}
		}
	}
}
