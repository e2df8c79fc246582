package match_test

import (
	"fmt"
	"math/rand"
	"slices"
	"strings"
	"testing"

	"galley/api"
)

// Patterns and texts with which to try each way in turn would never end.
func TestP1ManyWays(t *testing.T) {
	t.Parallel()
	const n = 1 << 17
	many := strings.Repeat("a", n)
	deep := strings.Repeat("(", 64) + "a" + strings.Repeat(")*", 64)
	for _, c := range []struct {
		pattern string
		// Of many, of many with b behind it, and of many with c behind it.
		plain, b, c bool
	}{
		{"(a*)*b", false, true, false},
		{"(a|a)*b", false, true, false},
		{"(a|aa)+b", false, true, false},
		{"(a+)+b", false, true, false},
		{"(a*a*)*b", false, true, false},
		{"(.*)*(.*)*(.*)*b", false, true, false},
		{"((a?)*)*b", false, true, false},
		{deep + "b", false, true, false},
		{deep, true, false, false},
		{"(a|b|ab|ba|())*", true, true, false},
		{strings.Repeat("a*", 500) + "b", false, true, false},
		{strings.Repeat(".*", 100) + "[ab]", true, true, false},
		{"(a|[^b]|[\\^a])*", true, false, true},
		{strings.Repeat("(a|b)?", 170), false, false, false},
	} {
		p := read(t, c.pattern)
		for behind, want := range map[string]bool{"": c.plain, "b": c.b, "c": c.c} {
			if got := p.Whole([]byte(many + behind)); got != want {
				t.Errorf("%s: Whole behind %q: %v", short(c.pattern), behind, got)
			}
		}
	}
}

// (a?)^k a^k of k to 2k times a: there is one way in very many.
func TestP1OneWayInMany(t *testing.T) {
	for _, k := range []int{1, 2, 20, 341} {
		p := read(t, strings.Repeat("a?", k)+strings.Repeat("a", k))
		for _, n := range []int{0, k - 1, k, k + 1, 2*k - 1, 2 * k, 2*k + 1} {
			if got := p.Whole([]byte(strings.Repeat("a", n))); got != (k <= n && n <= 2*k) {
				t.Errorf("%d of %d: %v", k, n, got)
			}
		}
		want := []api.Hit{{Lo: 0, Hi: 2 * k}, {Lo: 2 * k, Hi: 4 * k}, {Lo: 4 * k, Hi: 5 * k}}
		if got := p.All([]byte(strings.Repeat("a", 5*k))); !slices.Equal(got, want) {
			t.Errorf("%d: %v", k, got)
		}
	}
}

// Much is begun at each edge, and never ended, or only at the text's end: no call may go over the text again from each edge on.
func TestP1BegunEverywhere(t *testing.T) {
	t.Parallel()
	const n = 1 << 20
	many := []byte(strings.Repeat("a", n))
	for _, pattern := range []string{"a*b", "(a|\u20ac)*[^a]", "a+a+b", ".*b", `(.+\xff|a+b)`} {
		p := read(t, pattern)
		if h, ok := p.First(many, 0); ok || h != (api.Hit{}) {
			t.Errorf("%q: First: %v, %v", pattern, h, ok)
		}
		if hits := p.All(many); len(hits) != 0 {
			t.Errorf("%q: All: %d", pattern, len(hits))
		}
		if h, ok := p.First(many, n/2+1); ok || h != (api.Hit{}) {
			t.Errorf("%q: First: %v, %v", pattern, h, ok)
		}
	}
	// Hits of one step, behind each of which much more is begun.
	for _, pattern := range []string{"a|a*b", "a+b|a", "a(a*b)?", "a(.*c)?"} {
		p := read(t, pattern)
		hits := p.All(many)
		if len(hits) != n || hits[0] != (api.Hit{Lo: 0, Hi: 1}) || hits[n-1] != (api.Hit{Lo: n - 1, Hi: n}) {
			t.Errorf("%q: All: %d", pattern, len(hits))
		}
	}
	for pattern, want := range map[string]int{"": n + 1, "(a*b)?": n + 1, "a*": 1, "a+b?": 1, "(aa)+": 1, "a*b|": n + 1} {
		if hits := read(t, pattern).All(many); len(hits) != want || hits[0].Lo != 0 || hits[len(hits)-1].Hi != n {
			t.Errorf("%q: All: %d, want %d", pattern, len(hits), want)
		}
	}
}

// What can't go on isn't gone on with: a short match costs little, however long the text is.
func TestP1ShortInLong(t *testing.T) {
	t.Parallel()
	const n = 1 << 20
	many := []byte(strings.Repeat("ab", n/2))
	p := read(t, "ab?a?|c")
	for lo := range n {
		hi, ok := p.Longest(many, lo)
		if ok != (lo%2 == 0) || ok && hi != min(lo+3, n) {
			t.Fatalf("Longest from %d: %d, %v", lo, hi, ok)
		}
		if h, _ := p.First(many, lo); h.Lo != lo+lo%2 && lo < n-1 {
			t.Fatalf("First from %d: %v", lo, h)
		}
		if p.Whole(many[lo:]) != (n-lo <= 3 && lo%2 == 0) {
			t.Fatalf("Whole from %d", lo)
		}
	}
}

// An end far behind: the longest one is told, not the one that is told first.
func TestP21_1FarEnds(t *testing.T) {
	t.Parallel()
	const n = 1 << 16
	s := strings.Repeat("ab", n) + "c" + strings.Repeat("ab", n)
	for _, c := range []struct {
		pattern string
		want    []api.Hit
	}{
		{"(ab)*c|c|xa", []api.Hit{{Lo: 0, Hi: 2*n + 1}}},
		{"b(ab)*c|c", []api.Hit{{Lo: 1, Hi: 2*n + 1}}},
		{"c(ab)*", []api.Hit{{Lo: 2 * n, Hi: 4*n + 1}}},
		{".*c|[^c]+", []api.Hit{{Lo: 0, Hi: 2*n + 1}, {Lo: 2*n + 1, Hi: 4*n + 1}}},
		{"(ab)+", []api.Hit{{Lo: 0, Hi: 2 * n}, {Lo: 2*n + 1, Hi: 4*n + 1}}},
		{".*", []api.Hit{{Lo: 0, Hi: 4*n + 1}}},
	} {
		p := read(t, c.pattern)
		if got := p.All([]byte(s)); !slices.Equal(got, c.want) {
			t.Errorf("%q: All: %v, want %v", c.pattern, got, c.want)
		}
		if got, ok := p.First([]byte(s), 0); got != c.want[0] || !ok {
			t.Errorf("%q: First: %v, %v, want %v", c.pattern, got, ok, c.want[0])
		}
		if got, ok := p.Longest([]byte(s), c.want[0].Lo); got != c.want[0].Hi || !ok {
			t.Errorf("%q: Longest: %v, %v, want %v", c.pattern, got, ok, c.want[0])
		}
	}
}

// Many texts of some thousand steps, with what the library finds in them.
func TestP21_1LongTexts(t *testing.T) {
	for _, pattern := range []string{"a+b", "(a|ab)(b|a)*", "[^b]+", "a?b?", "(ba)*|a", "(ab|ba)+a?", "aab|ab|b", "a(.b)*", "(a*b*)*", "bbb+|a"} {
		t.Run(pattern, func(t *testing.T) {
			t.Parallel()
			p, re := read(t, pattern), byLibrary(pattern)
			rng := rand.New(rand.NewSource(8))
			for range 20 {
				s := byChance(rng, rng.Intn(3000), [][]string{{"a", "b"}, {"a", "a", "a", "b"}, {"a", "b", "c", "\n"}}[rng.Intn(3)])
				var want []api.Hit
				for _, h := range re.FindAllStringIndex(s, -1) {
					want = append(want, api.Hit{Lo: h[0], Hi: h[1]})
				}
				if got := p.All([]byte(s)); !slices.Equal(got, want) {
					t.Fatalf("All(%s): %s, want %s", short(s), short(fmt.Sprint(got)), short(fmt.Sprint(want)))
				}
			}
		})
	}
}

// Patterns as long as they may be: each matches itself, where it has no special runes; and the others something.
func TestP21_1LongestPatterns(t *testing.T) {
	t.Parallel()
	for _, text := range longest() {
		p := read(t, text)
		for _, s := range []string{"", "a", "\xff", "\u20ac", strings.Repeat("a", 1024), strings.Repeat("\xff", 256), strings.Repeat("\x80", 512), strings.Repeat("b", 896), strings.Repeat("b", 300)} {
			rising(t, p, s)
		}
	}
	for text, s := range map[string]string{
		strings.Repeat(`\xff`, 256): strings.Repeat("\xff", 256), strings.Repeat(`\a`, 512): strings.Repeat("\x80", 512), strings.Repeat("[^a]", 256): strings.Repeat("\xe2b", 128), strings.Repeat("(a|b)", 204): strings.Repeat("ab", 102), strings.Repeat("(", 64) + strings.Repeat("b", 896) + strings.Repeat(")", 64): strings.Repeat("b", 896),
	} {
		if p := read(t, text); !p.Whole([]byte(s)) || p.Whole([]byte(s+"b")) || p.Whole([]byte(s[1:])) {
			t.Errorf("%s", short(text))
		}
	}
}
