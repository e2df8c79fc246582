package match_test

import (
	"fmt"
	"math"
	"math/rand"
	"slices"
	"strings"
	"testing"
	"unicode/utf8"

	"galley/api"
	"galley/match"
)

func TestP21_1ExamplesOfWhole(t *testing.T) {
	for _, c := range []struct {
		pattern string
		yes, no []string
	}{
		{"a|b*", []string{"a", "", "b", "bbb"}, []string{"ab", "aa", "ba"}},
		{"(ab)+c?", []string{"ab", "abc", "ababc"}, []string{"", "c", "aba", "abcc"}},
		{".", []string{"\xc3\xa9", "\xc3", "a", "\n", "\r", "\x00", "\U0001F600"}, []string{"", "\xc3\x28", "\r\n", "\xf0\x9f"}},
		{`\xc3`, []string{"\xc3"}, []string{"\xc3\xa9", "\u00c3", "\xc4", ""}},
		{`\a+`, []string{"\xff", "\xe2\x82", "\x80\x80\x80"}, []string{"", "\u20ac", "\ufffd", "\xffa"}},
		{`[a-cx\u{e9}]`, []string{"a", "b", "c", "x", "\xc3\xa9"}, []string{"", "d", "w", "y", "\xc3", "\xe9", "ab"}},
		{"[^a]", []string{"b", "\xff", "\u00e9", "^", "\n"}, []string{"a", "", "bb"}},
		// What stands for itself only in some places, or only behind a backslash.
		{`-^{}`, []string{"-^{}"}, []string{"-", "^"}},
		{`\-\^`, []string{"-^"}, []string{`\-\^`}},
		{`\(\)\[\]\.\*\+\?\|\\`, []string{`()[].*+?|\`}, []string{"", `\(\)\[\]\.\*\+\?\|\\`}},
		{`[()[.*+?|^]`, []string{"(", ")", "[", ".", "*", "+", "?", "|", "^"}, []string{"", "]", `\`, "-", "a"}},
		{`[\(\)\[\]\.\*\+\?\|\\\-\^]`, []string{"(", ")", "[", "]", ".", "*", "+", "?", "|", `\`, "-", "^"}, []string{"", "a", ",", "/"}},
		{"[^^]", []string{"a", "\xff", "]"}, []string{"^", ""}},
		{"[a^]", []string{"a", "^"}, []string{"b"}},
		{`[\^a]`, []string{"a", "^"}, []string{"b"}},
		{"[x^-a]", []string{"x", "^", "_", "`", "a"}, []string{"]", "b", "-"}},
		{`\n\r\t`, []string{"\n\r\t"}, []string{"nrt", "\n"}},
		{`[\n\t]`, []string{"\n", "\t"}, []string{"\r", "n", `\`}},
		{`[\t-\r]`, []string{"\t", "\n", "\x0b", "\x0c", "\r"}, []string{"\x08", "\x0e"}},
		{"\n", []string{"\n"}, []string{"\r", "\r\n"}},
		{"\x00", []string{"\x00"}, []string{""}},
		{`\u{0}`, []string{"\x00"}, []string{"", "0"}},
		{`\u{000061}`, []string{"a"}, []string{"\x00"}},
		{`\u{10ffff}\u{10FFFF}`, []string{"\U0010FFFF\U0010FFFF"}, []string{"\U0010FFFF"}},
		{`\u{D7ff}|\u{E000}`, []string{"\ud7ff", "\ue000"}, []string{"\xed\xa0\x80"}},
		{`\u{fffd}`, []string{"\ufffd"}, []string{"\xff", "\xef\xbf"}},
		{"\ufffd", []string{"\ufffd"}, []string{"\xff"}},
		{`\x80\xBf\xFF`, []string{"\x80\xbf\xff"}, []string{"\x80"}},
		// Bad bytes that would be an encoding together never stand together as bad ones.
		{`\xc3\xa9`, nil, []string{"\u00e9", "\xc3\xa9", "\xc3"}},
		{`\xe2\x82`, []string{"\xe2\x82"}, []string{"\u20ac"}},
		{`\xe2\x82.`, []string{"\xe2\x82a", "\xe2\x82\xe2"}, []string{"\u20ac", "\xe2\x82\xac"}},
		{`\xe2\x82\xac|\u{20ac}`, []string{"\u20ac"}, []string{"\xe2\x82"}},
		{`[\xff\a]`, []string{"\xff", "\x80"}, []string{"a", "\ufffd"}},
		{`[^\a]`, []string{"a", "\ufffd", "\U0010FFFF"}, []string{"\xff", "\x80"}},
		{`[^\xff]`, []string{"a", "\xfe", "\u00ff"}, []string{"\xff"}},
		{`[\u{0}-\u{10ffff}]`, []string{"\x00", "a", "\ufffd", "\U0010FFFF"}, []string{"\xff", "\x80"}},
		{`[^\u{0}-\u{10ffff}]`, []string{"\xff", "\x80"}, []string{"\x00", "a", "\ufffd", "\U0010FFFF"}},
		{`[^\u{0}-\u{10ffff}\a]`, nil, []string{"", "\xff", "a"}},
		{`[^\u{0}-\u{10ffff}\a]*`, []string{""}, []string{"\xff", "a"}},
		{`[a-a]`, []string{"a"}, []string{"b", "`"}},
		{`[a-cb-de-fx-y]`, []string{"a", "b", "c", "d", "e", "f", "x", "y"}, []string{"`", "g", "w", "z"}},
		{`[x-ya-fb-c]`, []string{"a", "b", "c", "d", "e", "f", "x", "y"}, []string{"`", "g", "w", "z"}},
		{`[^x-ya-fb-c]`, []string{"`", "g", "w", "z", "\xff"}, []string{"a", "b", "c", "d", "e", "f", "x", "y"}},
		{`[\--0]`, []string{"-", ".", "/", "0"}, []string{",", "1", `\`}},
		{`[\+-\-]`, []string{"+", ",", "-"}, []string{"*", ".", `\`}},
		{`[!-\-]`, []string{"!", "(", "+", ",", "-"}, []string{" ", "."}},
		// Empty rows, empty choices, and what stands behind them.
		{"", []string{""}, []string{"a"}},
		{"()", []string{""}, []string{"a"}},
		{"()*", []string{""}, []string{"a"}},
		{"()+", []string{""}, []string{"a"}},
		{"()?", []string{""}, []string{"a"}},
		{"(|)*", []string{""}, []string{"a"}},
		{"(()*|)+", []string{""}, []string{"a"}},
		{"|", []string{""}, []string{"a", "|"}},
		{"||a", []string{"", "a"}, []string{"aa"}},
		{"a||b", []string{"", "a", "b"}, []string{"ab"}},
		{"(|a)b", []string{"b", "ab"}, []string{"", "a"}},
		{"(a|)b", []string{"b", "ab"}, []string{"", "a"}},
		{"a()b", []string{"ab"}, []string{"a", "b"}},
		{"(|a)+", []string{"", "a", "aa"}, []string{"b"}},
		{"(|a|bc)*", []string{"", "a", "bc", "abca"}, []string{"b", "ac"}},
		// Again and again.
		{"a*", []string{"", "a", "aa"}, []string{"b", "ab"}},
		{"a+", []string{"a", "aa"}, []string{"", "b"}},
		{"a?", []string{"", "a"}, []string{"aa"}},
		{"ab*", []string{"a", "abb"}, []string{"", "abab"}},
		{"(ab)*", []string{"", "abab"}, []string{"abb", "a"}},
		{"\u00e9*", []string{"", "\u00e9\u00e9"}, []string{"\xc3\xa9\xa9", "\xc3"}},
		{"(a*)*", []string{"", "aaa"}, []string{"b"}},
		{"(a*)+b", []string{"b", "aab"}, []string{"", "a"}},
		{"(a+)*", []string{"", "aaa"}, []string{"b"}},
		{"(a+)+", []string{"a", "aaa"}, []string{""}},
		{"(a?)*", []string{"", "aaa"}, []string{"b"}},
		{"(a?)?", []string{"", "a"}, []string{"aa"}},
		{"((a*b*)*c)*", []string{"", "c", "abac", "cc", "bac"}, []string{"a", "ca"}},
		{"((a|b)?c)+", []string{"c", "acbc", "cc"}, []string{"", "ab", "abc"}},
		{"(aa|aaa)*", []string{"", "aa", "aaa", "aaaa", "aaaaa", "aaaaaaa"}, []string{"a"}},
		{"(aaa)*|(aaaaa)*", []string{"", "aaa", "aaaaa", "aaaaaa"}, []string{"a", "aaaa", "aaaaaaaa"}},
		{"(a|ab)(c|bcd)", []string{"ac", "abc", "abcd", "abbcd"}, []string{"abd", "abcdc"}},
		{"a|b|c|d", []string{"a", "b", "c", "d"}, []string{"", "ab"}},
		{".*", []string{"", "a", "\xff\u20ac\n"}, nil},
	} {
		p := read(t, c.pattern)
		for _, s := range c.yes {
			if !p.Whole([]byte(s)) {
				t.Errorf("%q doesn't match %q", c.pattern, s)
			}
		}
		for _, s := range c.no {
			if p.Whole([]byte(s)) {
				t.Errorf("%q matches %q", c.pattern, s)
			}
		}
	}
}

func TestP21_1ExamplesOfLongest(t *testing.T) {
	for _, c := range []struct {
		pattern, b string
		from       int
		want       int
		ok         bool
	}{
		{"(ab)+c?", "ababc", 0, 5, true},
		{"(ab)+c?", "aba", 0, 2, true},
		{"(ab)+c?", "ba", 0, 0, false},
		{"(ab)+c?", "ba", 1, 0, false},
		{"(ab)+c?", "ababc", 2, 5, true},
		{"(ab)+c?", "ababc", 4, 0, false},
		{"(ab)+c?", "ababc", 5, 0, false},
		{".", "\xc3\x28", 0, 1, true},
		{".", "\xc3\xa9", 0, 2, true},
		{".", "\xc3\xa9", 1, 0, false},
		{".*", "\xc3\xa9", 1, 0, false},
		{".*", "\xc3\xa9", 2, 2, true},
		{".*", "\xc3\xa9a", 2, 3, true},
		{"", "\U0001F600", 0, 0, true},
		{"", "\U0001F600", 1, 0, false},
		{"", "\U0001F600", 2, 0, false},
		{"", "\U0001F600", 3, 0, false},
		{"", "\U0001F600", 4, 4, true},
		{"", "\U0001F600", 5, 0, false},
		{"", "", 0, 0, true},
		{"", "", 1, 0, false},
		{"", "", -1, 0, false},
		{"", "a", -1, 0, false},
		{"", "a", math.MinInt, 0, false},
		{"", "a", math.MaxInt, 0, false},
		{"a", "", 0, 0, false},
		{"a*", "aaab", 1, 3, true},
		{"a*", "aaab", 3, 3, true},
		{"a*", "aaab", 4, 4, true},
		// The longest one, whichever row it is of, and however it went on in vain.
		{"a|ab", "abc", 0, 2, true},
		{"ab|a", "abc", 0, 2, true},
		{"a|abcd", "abc", 0, 1, true},
		{"a?|ab?", "ab", 0, 2, true},
		{"(a|ab)(c|bcd)?", "abcd", 0, 4, true},
		{"a(bc)*", "abcbcb", 0, 5, true},
		{"(a|b)*c|a", "abab", 0, 1, true},
		{`\a+`, "\xe2\x82\xac\x82\xe2", 3, 5, true},
		{`\a+`, "\xe2\x82\xac", 1, 0, false},
		{`\a\a`, "\xf0\x9f\x98a", 1, 3, true},
	} {
		if got, ok := read(t, c.pattern).Longest([]byte(c.b), c.from); got != c.want || ok != c.ok {
			t.Errorf("%q: Longest(%q, %d): %d, %v, want %d, %v", c.pattern, c.b, c.from, got, ok, c.want, c.ok)
		}
	}
}

func TestP21_1ExamplesOfFirst(t *testing.T) {
	for _, c := range []struct {
		pattern, b string
		from       int
		want       api.Hit
		ok         bool
	}{
		{"(ab)+c?", "xxab", -5, api.Hit{Lo: 2, Hi: 4}, true},
		{"(ab)+c?", "xxab", 2, api.Hit{Lo: 2, Hi: 4}, true},
		{"(ab)+c?", "xxab", 3, api.Hit{}, false},
		{"a*", "baab", 0, api.Hit{}, true},
		{"a*", "baab", 1, api.Hit{Lo: 1, Hi: 3}, true},
		{"a*", "baab", 2, api.Hit{Lo: 2, Hi: 3}, true},
		{"a*", "baab", 4, api.Hit{Lo: 4, Hi: 4}, true},
		{"a*", "baab", 5, api.Hit{}, false},
		{"a*", "baab", math.MaxInt, api.Hit{}, false},
		{"a*", "baab", math.MinInt, api.Hit{}, true},
		{"a+", "baab", math.MinInt, api.Hit{Lo: 1, Hi: 3}, true},
		{"", "", 0, api.Hit{}, true},
		{"", "", 1, api.Hit{}, false},
		{"", "", -1, api.Hit{}, true},
		{"a", "", 0, api.Hit{}, false},
		// From within an encoding it goes on from its end.
		{"", "\U0001F600a", 1, api.Hit{Lo: 4, Hi: 4}, true},
		{".", "\U0001F600a", 1, api.Hit{Lo: 4, Hi: 5}, true},
		{".", "\U0001F600a", 0, api.Hit{Lo: 0, Hi: 4}, true},
		{`\x9f`, "\U0001F600\x9f", 1, api.Hit{Lo: 4, Hi: 5}, true},
		{`\x9f`, "\xf0\x9f", 1, api.Hit{Lo: 1, Hi: 2}, true},
		{`\x9f`, "\xf0\x9f\x98\x80", 0, api.Hit{}, false},
		// The first to begin counts, though another one that begins behind it ends ahead of it, or goes further.
		{"abcd|c", "abcd", 0, api.Hit{Lo: 0, Hi: 4}, true},
		{"abcd|c", "abce", 0, api.Hit{Lo: 2, Hi: 3}, true},
		{"abcd|bc", "abcd", 0, api.Hit{Lo: 0, Hi: 4}, true},
		{"abcd|bc|b|c", "abce", 0, api.Hit{Lo: 1, Hi: 3}, true},
		{"ab|bcdef", "abcdef", 0, api.Hit{Lo: 0, Hi: 2}, true},
		{"abx|bcx|b|cde", "abcde", 0, api.Hit{Lo: 1, Hi: 2}, true},
		{"abcx|bcdx|cd|c", "abcde", 0, api.Hit{Lo: 2, Hi: 4}, true},
		{"a|abcx|bc", "abcd", 0, api.Hit{Lo: 0, Hi: 1}, true},
	} {
		if got, ok := read(t, c.pattern).First([]byte(c.b), c.from); got != c.want || ok != c.ok {
			t.Errorf("%q: First(%q, %d): %v, %v, want %v, %v", c.pattern, c.b, c.from, got, ok, c.want, c.ok)
		}
	}
}

func TestP21_1ExamplesOfAll(t *testing.T) {
	for _, c := range []struct {
		pattern, b string
		want       []api.Hit
	}{
		{"a*", "baab", []api.Hit{{Lo: 0, Hi: 0}, {Lo: 1, Hi: 3}, {Lo: 4, Hi: 4}}},
		{"", "ab", []api.Hit{{Lo: 0, Hi: 0}, {Lo: 1, Hi: 1}, {Lo: 2, Hi: 2}}},
		{`\xc3`, "\xc3\xa9\xc3", []api.Hit{{Lo: 2, Hi: 3}}},
		{`\a+`, "\x61\xe2\x82\x62\xff", []api.Hit{{Lo: 1, Hi: 3}, {Lo: 4, Hi: 5}}},
		{"a|ab", "abab", []api.Hit{{Lo: 0, Hi: 2}, {Lo: 2, Hi: 4}}},
		{"x", "ab", nil},
		{"x", "", nil},
		{"", "", []api.Hit{{}}},
		{"a*", "", []api.Hit{{}}},
		{".?", "\u00e9", []api.Hit{{Lo: 0, Hi: 2}}},
		{"", "\U0001F600\u00e9", []api.Hit{{Lo: 0, Hi: 0}, {Lo: 4, Hi: 4}, {Lo: 6, Hi: 6}}},
		// Hits that touch, and empty ones at the end of another.
		{"a", "aaa", []api.Hit{{Lo: 0, Hi: 1}, {Lo: 1, Hi: 2}, {Lo: 2, Hi: 3}}},
		{"a?", "aaba", []api.Hit{{Lo: 0, Hi: 1}, {Lo: 1, Hi: 2}, {Lo: 3, Hi: 4}}},
		{"a?", "aabba", []api.Hit{{Lo: 0, Hi: 1}, {Lo: 1, Hi: 2}, {Lo: 3, Hi: 3}, {Lo: 4, Hi: 5}}},
		{"(ab)*", "abababa", []api.Hit{{Lo: 0, Hi: 6}, {Lo: 7, Hi: 7}}},
		{"(ab)*", "aababb", []api.Hit{{Lo: 0, Hi: 0}, {Lo: 1, Hi: 5}, {Lo: 6, Hi: 6}}},
		{"aba", "ababababa", []api.Hit{{Lo: 0, Hi: 3}, {Lo: 4, Hi: 7}}},
		{"(aa)+", "aaaaa", []api.Hit{{Lo: 0, Hi: 4}}},
		{"abcd|bc|c", "abcebcdcabcd", []api.Hit{{Lo: 1, Hi: 3}, {Lo: 4, Hi: 6}, {Lo: 7, Hi: 8}, {Lo: 8, Hi: 12}}},
		{"b|()", "aba", []api.Hit{{Lo: 0, Hi: 0}, {Lo: 1, Hi: 2}, {Lo: 3, Hi: 3}}},
	} {
		if got := read(t, c.pattern).All([]byte(c.b)); !slices.Equal(got, c.want) {
			t.Errorf("%q: All(%q): %v, want %v", c.pattern, c.b, got, c.want)
		}
	}
}

// Each shape of one step on every step that a pattern may speak of, and two of them.
func TestP21_1Singles(t *testing.T) {
	for _, s := range singles() {
		p := read(t, s.text)
		for _, text := range texts(0, 3, mixed...) {
			hold(t, p, text, s.answers(text))
		}
	}
}

// Patterns by chance on all short texts.
func TestP21_1ShortTexts(t *testing.T) {
	all := texts(0, 3, mixed...)
	few := texts(0, 6, "a", "b")
	for k := range 8 {
		t.Run("", func(t *testing.T) {
			t.Parallel()
			rng := rand.New(rand.NewSource(int64(21 + k)))
			for range 150 {
				s := shapeOf(rng, 1+rng.Intn(6))
				p := read(t, s.text)
				for _, text := range few {
					hold(t, p, text, s.answers(text))
				}
				for i := rng.Intn(7); i < len(all); i += 7 {
					hold(t, p, all[i], s.answers(all[i]))
				}
			}
		})
	}
}

// Texts of up to sixty steps.
func TestP21_1LongerTexts(t *testing.T) {
	for k := range 8 {
		t.Run("", func(t *testing.T) {
			t.Parallel()
			rng := rand.New(rand.NewSource(int64(210 + k)))
			for range 250 {
				s := shapeOf(rng, 2+rng.Intn(7))
				if len(s.text) > api.MaxPattern {
					continue
				}
				p := read(t, s.text)
				for range 6 {
					text := byChance(rng, rng.Intn(20), [][]string{mixed, {"a", "b"}, {"a"}, {"a", "\xff"}}[rng.Intn(4)])
					hold(t, p, text, s.answers(text))
				}
			}
		})
	}
}

// piece is what an item of brackets stands for: the runes from lo to hi, or the bad bytes.
type piece struct {
	text   string
	lo, hi rune
	bad    bool
}

func (p piece) has(r rune, bad bool) bool { return bad == p.bad && p.lo <= r && r <= p.hi }

// pieceOf is an item by chance, whose ends are of those.
func pieceOf(rng *rand.Rand, ends []rune) piece {
	lo, hi := ends[rng.Intn(len(ends))], ends[rng.Intn(len(ends))]
	switch rng.Intn(8) {
	case 0:
		return piece{`\a`, 0x80, 0xFF, true}
	case 1, 2:
		x := []rune{0x80, 0x81, 0xBF, 0xC0, 0xFE, 0xFF}[rng.Intn(6)]
		return piece{fmt.Sprintf(`\x%02x`, x), x, x, true}
	case 3, 4:
		return piece{written(rng, lo), lo, lo, false}
	}
	lo, hi = min(lo, hi), max(lo, hi)
	return piece{written(rng, lo) + "-" + written(rng, hi), lo, hi, false}
}

// written is a rune in brackets, in one of the ways.
func written(rng *rand.Rand, r rune) string {
	number := fmt.Sprintf(`\u{%0*x}`, 1+rng.Intn(6), r)
	switch {
	case rng.Intn(3) == 0:
		return number
	case rng.Intn(3) == 0:
		return number[:2] + strings.ToUpper(number[2:])
	case strings.ContainsRune(`]\-^`, r), rng.Intn(3) == 0 && strings.ContainsRune(`()[.*+?|`, r):
		return `\` + string(r)
	}
	return string(r)
}

// Whether a step is in brackets, for runes and bad bytes at and beside the ends of spans, some of which touch, or go over one another.
func TestP21_1Brackets(t *testing.T) {
	ends := []rune{0, 1, 0x2C, '-', 0x2E, 0x40, 'A', 'Z', '[', '\\', ']', '^', '_', 'a', 'z', 0x7F, 0x80, 0xFF, 0x7FF, 0x800, 0xD7FF, 0xE000, 0xFFFC, 0xFFFD, 0xFFFF, 0x10000, 0x10FFFF}
	rng := rand.New(rand.NewSource(4))
	for range 5000 {
		not := rng.Intn(2) == 0
		text := "["
		if not {
			text += "^"
		}
		var items []piece
		for range 1 + rng.Intn(6) {
			items = append(items, pieceOf(rng, ends))
			text += items[len(items)-1].text
		}
		p := read(t, text+"]")
		holds := func(step string, r rune, bad bool) {
			in := slices.ContainsFunc(items, func(i piece) bool { return i.has(r, bad) })
			if got := p.Whole([]byte(step)); got != (in != not) {
				t.Fatalf("%q: %q: %v", p.Text(), step, got)
			}
		}
		for _, end := range ends {
			for r := max(0, end-1); r <= min(0x10FFFF, end+1); r++ {
				if utf8.ValidRune(r) {
					holds(string(r), r, false)
				}
			}
		}
		for x := rune(0x80); x <= 0xFF; x++ {
			holds(string([]byte{byte(x)}), x, true)
		}
	}
}

// Brackets with as many items as a pattern has room for.
func TestP21_1ManyItems(t *testing.T) {
	var even, odd strings.Builder
	for r := rune(0x4000); even.Len() < api.MaxPattern-6; r += 2 {
		even.WriteRune(r)
		odd.WriteRune(r + 1)
	}
	for _, not := range []bool{false, true} {
		text := "[" + even.String() + "]"
		if not {
			text = "[^" + even.String() + "]"
		}
		p := read(t, text)
		for _, r := range even.String() {
			if p.Whole([]byte(string(r))) == not {
				t.Errorf("%v: %x", not, r)
			}
		}
		for _, r := range odd.String() {
			if p.Whole([]byte(string(r))) != not {
				t.Errorf("%v: %x", not, r)
			}
		}
	}
}

func TestP21_1NilPattern(t *testing.T) {
	var p *match.Pattern
	if p.Text() != "" {
		t.Errorf("Text: %q", p.Text())
	}
	for _, b := range [][]byte{nil, {}, []byte("a"), []byte("\xff")} {
		if p.Whole(b) {
			t.Errorf("Whole(%x)", b)
		}
		if hits := p.All(b); len(hits) != 0 {
			t.Errorf("All(%x): %v", b, hits)
		}
		for _, from := range []int{math.MinInt, -1, 0, 1, 2, math.MaxInt} {
			if n, ok := p.Longest(b, from); n != 0 || ok {
				t.Errorf("Longest(%x, %d): %d, %v", b, from, n, ok)
			}
			if h, ok := p.First(b, from); h != (api.Hit{}) || ok {
				t.Errorf("First(%x, %d): %v, %v", b, from, h, ok)
			}
		}
	}
}

func TestR5BytesThatAreNil(t *testing.T) {
	for text, want := range map[string]bool{"": true, "a*": true, "a": false, ".": false, `\a`: false, "a|": true} {
		p := read(t, text)
		for _, b := range [][]byte{nil, {}, []byte("aaa")[:0]} {
			n, ok := p.Longest(b, 0)
			h, found := p.First(b, 0)
			if p.Whole(b) != want || n != 0 || ok != want || h != (api.Hit{}) || found != want || (len(p.All(b)) == 1) != want {
				t.Errorf("%q: %v, %d, %v, %v, %v, %v", text, p.Whole(b), n, ok, h, found, p.All(b))
			}
		}
	}
}
