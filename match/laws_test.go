package match_test

import (
	"fmt"
	"math/rand"
	"regexp"
	"slices"
	"strings"
	"testing"

	"galley/api"
	"galley/match"
)

// patterns are many, of all forms.
func patterns(rng *rand.Rand, n int) []string {
	all := []string{"", "a", "b", ".", `\a`, "a*", "a|b", "ab", "a?", "(a|)", "(ab|a)", "[^a]", "(a*b)*", "a*b*", `[^\u{0}-\u{10ffff}\a]`, "\u00e9", `\xc3`, `\xe2\x82`, "(a|ab)(b|)", "()*", ".*", "a+|b+", `(\xe2|\u{e9})+`}
	for range n {
		all = append(all, shapeOf(rng, rng.Intn(4)).text)
	}
	return all
}

// cuts are all ways to part a text between two of its steps, or at its ends.
func cuts(s string) [][2]string {
	var all [][2]string
	for _, at := range place(s).edges {
		all = append(all, [2]string{s[:at], s[at:]})
	}
	return all
}

// An encoding may be cut off at a text's end, or go on in the next one: what is cut where steps meet has the steps of the whole.
var lawTexts = append(texts(0, 5, "a", "b"), texts(0, 3, "a", "\u00e9", "\xc3", "\xe2", "\x82")...)

func TestP21_4ChoiceAndRow(t *testing.T) {
	t.Parallel()
	all := patterns(rand.New(rand.NewSource(44)), 20)
	for _, x := range all {
		p := read(t, x)
		for _, y := range all {
			q, either, both := read(t, y), read(t, "("+x+")|("+y+")"), read(t, "("+x+")("+y+")")
			for _, s := range lawTexts {
				b := []byte(s)
				if got, want := either.Whole(b), p.Whole(b) || q.Whole(b); got != want {
					t.Fatalf("%q of %q: %v", either.Text(), s, got)
				}
				want := slices.ContainsFunc(cuts(s), func(c [2]string) bool { return p.Whole([]byte(c[0])) && q.Whole([]byte(c[1])) })
				if got := both.Whole(b); got != want {
					t.Fatalf("%q of %q: %v", both.Text(), s, got)
				}
			}
		}
	}
}

func TestP21_4AgainAndAgain(t *testing.T) {
	t.Parallel()
	for _, x := range patterns(rand.New(rand.NewSource(45)), 300) {
		p, star, plus, maybe := read(t, x), read(t, "("+x+")*"), read(t, "("+x+")+"), read(t, "("+x+")?")
		row, choice := read(t, "("+x+")("+x+")*"), read(t, "("+x+")|")
		for _, s := range lawTexts {
			b := []byte(s)
			want := s == "" || slices.ContainsFunc(cuts(s), func(c [2]string) bool {
				return c[0] != "" && p.Whole([]byte(c[0])) && star.Whole([]byte(c[1]))
			})
			if got := star.Whole(b); got != want {
				t.Fatalf("%q of %q: %v", star.Text(), s, got)
			}
			same(t, plus, row, s)
			same(t, maybe, choice, s)
		}
	}
}

// same holds two patterns that match the same against one another, all their calls.
func same(t *testing.T, p, q *match.Pattern, s string) {
	t.Helper()
	b := []byte(s)
	if p.Whole(b) != q.Whole(b) || !slices.Equal(p.All(b), q.All(b)) {
		t.Fatalf("%q and %q of %q: %v, %v; %v, %v", p.Text(), q.Text(), s, p.Whole(b), q.Whole(b), p.All(b), q.All(b))
	}
	for from := range len(b) + 1 {
		m, ok := p.Longest(b, from)
		n, found := q.Longest(b, from)
		if m != n || ok != found {
			t.Fatalf("%q and %q of %q from %d: %d, %v; %d, %v", p.Text(), q.Text(), s, from, m, ok, n, found)
		}
	}
}

// Of patterns by chance, on texts by chance: Whole, where Longest from 0 is the end; hits as P21.3 says; All as First tells, from hit to hit.
func TestP21_2AndP21_3(t *testing.T) {
	t.Parallel()
	rng := rand.New(rand.NewSource(23))
	for range 400 {
		p := read(t, shapeOf(rng, rng.Intn(6)).text)
		for range 10 {
			s := byChance(rng, rng.Intn(200), [][]string{mixed, {"a", "b"}, {"a", "\xff", "\u00e9"}}[rng.Intn(3)])
			b := []byte(s)
			hi, ok := p.Longest(b, 0)
			if p.Whole(b) != (ok && hi == len(b)) {
				t.Fatalf("%q: Whole(%q): %v, Longest %d, %v", p.Text(), s, p.Whole(b), hi, ok)
			}
			rising(t, p, s)
		}
	}
}

func rising(t *testing.T, p *match.Pattern, s string) {
	t.Helper()
	b := []byte(s)
	hits := p.All(b)
	if want := byFirst(func(from int) (api.Hit, bool) { return p.First(b, from) }); !slices.Equal(hits, want) {
		t.Fatalf("%q: All(%q): %v, by First %v", p.Text(), s, hits, want)
	}
	edges := place(s).edges
	free := 0
	for i, h := range append(slices.Clone(hits), api.Hit{Lo: len(b), Hi: len(b)}) {
		if h.Lo < free || h.Hi < h.Lo || !slices.Contains(edges, h.Lo) || !slices.Contains(edges, h.Hi) || i > 0 && i < len(hits) && h.Lo == h.Hi && h.Lo == hits[i-1].Hi {
			t.Fatalf("%q: All(%q): %v", p.Text(), s, hits)
		}
		for _, at := range edges {
			if at < free || at >= h.Lo {
				continue
			}
			if hi, ok := p.Longest(b, at); ok && hi > at {
				t.Fatalf("%q: All(%q): %v, and %d to %d", p.Text(), s, hits, at, hi)
			}
		}
		free = h.Hi
	}
}

// The same steps, whatever stands ahead of them or behind: what is matched is the same, so far as no step joins them.
func TestP21_2StepsAlone(t *testing.T) {
	t.Parallel()
	rng := rand.New(rand.NewSource(22))
	around := []string{"", "a", "\u20ac", "\n", "\U0001F600", "ab\r\n"}
	for range 200 {
		p := read(t, shapeOf(rng, rng.Intn(6)).text)
		for _, s := range lawTexts {
			whole := p.Whole([]byte(s))
			for _, ahead := range around {
				if p.Whole([]byte(ahead + s)[len(ahead):]) != whole {
					t.Fatalf("%q of %q behind %q", p.Text(), s, ahead)
				}
				m, ok := p.Longest([]byte(s), 0)
				n, found := p.Longest([]byte(ahead+s), len(ahead))
				if ok != found || ok && n != m+len(ahead) {
					t.Fatalf("%q from %q behind %q: %d, %v, %d, %v", p.Text(), s, ahead, m, ok, n, found)
				}
			}
		}
	}
}

// plain are runes that stand for themselves.
var plain = []string{"a", "-", "^", "{", "}", " ", "\n", "\r", "\x00", "\x7f", "\u0080", "\u00e9", "\u20ac", "\ufffd", "\U0001F600", "\U0010FFFF", "/", "$", ",", "x", "u", "n"}

func TestP21_5TextsAsTheirOwnPatterns(t *testing.T) {
	t.Parallel()
	all := texts(0, 2, plain...)
	for i, s := range all {
		p := read(t, s)
		for j, other := range all {
			if p.Whole([]byte(other)) != (i == j) {
				t.Fatalf("%q of %q", s, other)
			}
		}
		itself(t, p, s)
	}
	for _, s := range texts(3, 3, plain...) {
		itself(t, read(t, s), s)
	}
	for r := range rune(0x110000) {
		if (r < 0xD800 || r > 0xDFFF) && !strings.ContainsRune(`()[].*+?|\`, r) && (r < 0x3000 || r%13 == 0) {
			s := string(r)
			if p := read(t, s); !p.Whole([]byte(s)) || p.Whole([]byte(string(r^1))) || p.Whole(nil) || p.Whole([]byte(s+s)) {
				t.Fatalf("%q", s)
			}
		}
	}
	for _, piece := range plain {
		s := strings.Repeat(piece, api.MaxPattern/len(piece))
		itself(t, read(t, s), s)
	}
}

// itself holds that of a text, of the shorter ones, and of longer ones a pattern matches the text alone.
func itself(t *testing.T, p *match.Pattern, s string) {
	t.Helper()
	if hi, ok := p.Longest([]byte(s+"aa"), 0); !p.Whole([]byte(s)) || hi != len(s) || !ok || p.Whole([]byte(s+"a")) || p.Whole([]byte("a"+s)) != (s == "a"+s) {
		t.Fatalf("%q of %q: %d, %v", p.Text(), s, hi, ok)
	}
	for _, c := range cuts(s) {
		if p.Whole([]byte(c[0])) != (c[1] == "") || p.Whole([]byte(c[1])) != (c[0] == "") {
			t.Fatalf("%q of %q and %q", p.Text(), c[0], c[1])
		}
	}
}

// quoted is the pattern that matches a text alone.
func quoted(s string) string {
	var b strings.Builder
	for _, x := range steps(s) {
		switch {
		case isBad(x):
			fmt.Fprintf(&b, `\x%02x`, x[0])
		case strings.Contains(`()[].*+?|\`, x):
			b.WriteString(`\` + x)
		default:
			b.WriteString(x)
		}
	}
	return b.String()
}

func TestP21_5AnyTextByEscapes(t *testing.T) {
	t.Parallel()
	few := texts(0, 2, "a", "(", ")", "[", "]", ".", "*", "+", "?", "|", `\`, "\u20ac", "\xe2", "\x82", "\xac", "\xff", "\xf0\x9f", "\ufffd")
	for i, s := range few {
		p := read(t, quoted(s))
		for j, other := range few {
			if p.Whole([]byte(other)) != (i == j) {
				t.Fatalf("%q of %q", p.Text(), other)
			}
		}
	}
	for _, s := range texts(0, 5, "a", "\\", "\xe2", "\x82", "\xac") {
		if p := read(t, quoted(s)); !p.Whole([]byte(s)) || p.Whole([]byte(s+"\xff")) || s != "" && p.Whole([]byte(s[1:])) {
			t.Fatalf("%q", p.Text())
		}
	}
	rng := rand.New(rand.NewSource(5))
	for range 500 {
		b := make([]byte, rng.Intn(250))
		rng.Read(b)
		p := read(t, quoted(string(b)))
		if !p.Whole(b) {
			t.Fatalf("%q of %x", p.Text(), b)
		}
		if len(b) > 0 {
			b[rng.Intn(len(b))] ^= 1 << rng.Intn(8)
			if p.Whole(b) {
				t.Fatalf("%q of %x", p.Text(), b)
			}
		}
	}
}

// byLibrary is the library's pattern for one of ASCII, with bad bytes as runes of their own.
func byLibrary(text string) *regexp.Regexp {
	text = strings.ReplaceAll(strings.ReplaceAll(text, "(", "(?:"), `\a`, `[\x{f0080}-\x{f00ff}]`)
	re := regexp.MustCompile("(?s)" + text)
	re.Longest()
	return re
}

// Every pattern of a few bytes, as the library has it too, on all short texts.
func TestP21_1EveryShortPattern(t *testing.T) {
	b := texts(0, 4, "a", "b")
	for k, first := range []string{"", "a", "b", "(", "|", ".", "["} {
		t.Run(first, func(t *testing.T) {
			t.Parallel()
			for _, text := range texts(0, 5, "a", "b", "(", ")", "|", "*", "+", "?", ".", "[^a]") {
				text = first + text
				if k == 0 && len(text) > 5 || strings.Contains(text, "((((") {
					continue
				}
				p, _, err := match.Read(text)
				if err != api.OK {
					continue
				}
				re := byLibrary(text)
				for _, s := range b {
					var want []api.Hit
					for _, h := range re.FindAllStringIndex(s, -1) {
						want = append(want, api.Hit{Lo: h[0], Hi: h[1]})
					}
					if got := p.All([]byte(s)); !slices.Equal(got, want) {
						t.Fatalf("%q: All(%q): %v, want %v", text, s, got, want)
					}
				}
			}
		})
	}
}
