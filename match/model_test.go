package match_test

import (
	"fmt"
	"math/rand"
	"slices"
	"strings"
	"testing"
	"unicode/utf8"

	"galley/api"
	"galley/match"
)

// steps is a text as its steps, by the library alone: of bytes that are no encoding it tells the width 1.
func steps(s string) []string {
	var all []string
	for len(s) > 0 {
		_, n := utf8.DecodeRuneInString(s)
		all = append(all, s[:n])
		s = s[n:]
	}
	return all
}

func isBad(step string) bool { return !utf8.ValidString(step) }

func runeOf(step string) rune {
	r, _ := utf8.DecodeRuneInString(step)
	return r
}

// The levels of what a pattern is made of: what stands lower needs parentheses to stand in the place of what stands higher.
const (
	choiceLevel = iota
	rowLevel
	pieceLevel
	atomLevel
)

// shape is a pattern that wasn't read, but put together: as it is written, and what it matches, by the chapter's words.
type shape struct {
	text  string
	level int
	// ends tells at which places of a list the lists may end that it matches and that begin at one: bit k stands for the place ahead of step k.
	ends func(list []string, at int) uint64
}

// at is how it is written in the place of something.
func (s shape) at(level int) string {
	if s.level < level {
		return "(" + s.text + ")"
	}
	return s.text
}

func (s shape) grouped() shape { return shape{"(" + s.text + ")", atomLevel, s.ends} }

// single matches a step.
func single(text string, is func(step string) bool) shape {
	return shape{text, atomLevel, func(list []string, at int) uint64 {
		if at < len(list) && is(list[at]) {
			return 1 << (at + 1)
		}
		return 0
	}}
}

// stepShape is written by the text, and matches the step alone.
func stepShape(text, step string) shape {
	return single(text, func(s string) bool { return s == step })
}

var nothing = shape{"", rowLevel, func(_ []string, at int) uint64 { return 1 << at }}

// behind: where what begins at one of the places may end.
func (s shape) behind(list []string, places uint64) uint64 {
	var all uint64
	for at := 0; at <= len(list); at++ {
		if places>>at&1 == 1 {
			all |= s.ends(list, at)
		}
	}
	return all
}

func (s shape) then(o shape) shape {
	return shape{s.at(rowLevel) + o.at(rowLevel), rowLevel, func(list []string, at int) uint64 {
		return o.behind(list, s.ends(list, at))
	}}
}

func (s shape) or(o shape) shape {
	return shape{s.text + "|" + o.text, choiceLevel, func(list []string, at int) uint64 {
		return s.ends(list, at) | o.ends(list, at)
	}}
}

// any number of them from the places on, none too.
func (s shape) again(list []string, places uint64) uint64 {
	for {
		more := places | s.behind(list, places)
		if more == places {
			return places
		}
		places = more
	}
}

func (s shape) star() shape {
	return shape{s.at(atomLevel) + "*", pieceLevel, func(list []string, at int) uint64 {
		return s.again(list, 1<<at)
	}}
}

func (s shape) plus() shape {
	return shape{s.at(atomLevel) + "+", pieceLevel, func(list []string, at int) uint64 {
		return s.again(list, s.ends(list, at))
	}}
}

func (s shape) maybe() shape {
	return shape{s.at(atomLevel) + "?", pieceLevel, func(list []string, at int) uint64 {
		return s.ends(list, at) | 1<<at
	}}
}

// placed is the steps of a text with the places of its edges.
type placed struct {
	list  []string
	edges []int
}

func place(s string) placed {
	p := placed{steps(s), []int{0}}
	at := 0
	for _, x := range p.list {
		at += len(x)
		p.edges = append(p.edges, at)
	}
	return p
}

// answers is what a pattern answers of a text: for each of its edges the hi of Longest, or -1.
type answers struct {
	placed
	longest []int
	whole   bool
}

func (s shape) answers(text string) answers {
	a := answers{placed: place(text)}
	for at := range a.edges {
		hi := -1
		for k, ends := range a.edges {
			if s.ends(a.list, at)>>k&1 == 1 {
				hi = ends
			}
		}
		a.longest = append(a.longest, hi)
	}
	a.whole = s.ends(a.list, 0)>>len(a.list)&1 == 1
	return a
}

func (a answers) longestAt(from int) (int, bool) {
	if k := slices.Index(a.edges, from); k >= 0 && a.longest[k] >= 0 {
		return a.longest[k], true
	}
	return 0, false
}

func (a answers) first(from int) (api.Hit, bool) {
	for k, lo := range a.edges {
		if lo >= from && a.longest[k] >= 0 {
			return api.Hit{Lo: lo, Hi: a.longest[k]}, true
		}
	}
	return api.Hit{}, false
}

// all goes by the chapter's words, from First to First.
func (a answers) all() []api.Hit { return byFirst(a.first) }

func byFirst(first func(from int) (api.Hit, bool)) []api.Hit {
	var hits []api.Hit
	from := 0
	for {
		h, ok := first(from)
		if !ok {
			return hits
		}
		from = h.Hi
		if h.Lo == h.Hi {
			from = h.Lo + 1
		}
		if n := len(hits); h.Lo == h.Hi && n > 0 && hits[n-1].Hi == h.Lo {
			continue
		}
		hits = append(hits, h)
	}
}

// read answers the pattern that a text writes.
func read(t testing.TB, text string) *match.Pattern {
	t.Helper()
	p, at, err := match.Read(text)
	if p == nil || at != 0 || err != api.OK || p.Text() != text {
		t.Fatalf("Read(%q): %v, %d, %d", text, p != nil, at, err)
	}
	return p
}

// hold holds all calls of a pattern on a text against what is wanted, from each place and from some that are none.
func hold(t testing.TB, p *match.Pattern, text string, want answers) {
	t.Helper()
	b := []byte(text)
	if got := p.Whole(b); got != want.whole {
		t.Fatalf("%q: Whole(%q): %v", p.Text(), text, got)
	}
	for from := -2; from <= len(b)+2; from++ {
		hi, ok := want.longestAt(from)
		if got, found := p.Longest(b, from); got != hi || found != ok {
			t.Fatalf("%q: Longest(%q, %d): %d, %v, want %d, %v", p.Text(), text, from, got, found, hi, ok)
		}
		hit, ok := want.first(from)
		if got, found := p.First(b, from); got != hit || found != ok {
			t.Fatalf("%q: First(%q, %d): %v, %v, want %v, %v", p.Text(), text, from, got, found, hit, ok)
		}
	}
	if got := p.All(b); !slices.Equal(got, want.all()) {
		t.Fatalf("%q: All(%q): %v, want %v", p.Text(), text, got, want.all())
	}
}

// texts are all of at least and at most so many pieces.
func texts(least, most int, some ...string) []string {
	row, all := []string{""}, []string{}
	for n := 0; n <= most; n++ {
		if n >= least {
			all = append(all, row...)
		}
		var longer []string
		for _, s := range row {
			for _, piece := range some {
				longer = append(longer, s+piece)
			}
		}
		row = longer
	}
	slices.Sort(all)
	return slices.Compact(all)
}

// byChance is a text of so many pieces.
func byChance(rng *rand.Rand, n int, some []string) string {
	var b strings.Builder
	for range n {
		b.WriteString(some[rng.Intn(len(some))])
	}
	return b.String()
}

// mixed are pieces of which texts of all kinds of steps are made, and such as become an encoding only together.
var mixed = []string{"a", "b", "\u00e9", "\u20ac", "\xc3", "\xe2", "\x82", "\xac", "\xff"}

// singles are shapes of one step, in all ways of writing one.
func singles() []shape {
	return []shape{
		stepShape("a", "a"), stepShape("b", "b"), stepShape(`\u{61}`, "a"), stepShape("\u00e9", "\u00e9"), stepShape(`\u{20AC}`, "\u20ac"),
		stepShape(`\xc3`, "\xc3"), stepShape(`\xE2`, "\xe2"), stepShape(`\x82`, "\x82"), stepShape(`\xff`, "\xff"),
		single(`\a`, isBad), single(".", func(string) bool { return true }),
		single("[ab]", func(s string) bool { return s == "a" || s == "b" }),
		single("[^a]", func(s string) bool { return s != "a" }),
		single(`[^\a]`, func(s string) bool { return !isBad(s) }),
		single(`[\a\u{e9}]`, func(s string) bool { return isBad(s) || s == "\u00e9" }),
		single(`[b-\u{ff}\x82]`, func(s string) bool { return s == "\x82" || !isBad(s) && 'b' <= runeOf(s) && runeOf(s) <= 0xFF }),
		single(`[^a\xff]`, func(s string) bool { return s != "a" && s != "\xff" }),
		single(`[^\u{0}-\u{10ffff}\a]`, func(string) bool { return false }),
	}
}

// shapeOf is a shape by chance, with at most so many joints in one another.
func shapeOf(rng *rand.Rand, deep int) shape {
	one := singles()
	if deep == 0 {
		if rng.Intn(8) == 0 {
			return nothing
		}
		return one[rng.Intn(len(one))]
	}
	s := shapeOf(rng, deep-1)
	switch rng.Intn(9) {
	case 0, 1, 2:
		return s.then(shapeOf(rng, rng.Intn(deep)))
	case 3, 4:
		return shapeOf(rng, rng.Intn(deep)).or(s)
	case 5:
		return s.star()
	case 6:
		return s.plus()
	case 7:
		return s.maybe()
	}
	return s.grouped()
}

func short(s string) string {
	if len(s) > 30 {
		return fmt.Sprintf("%.30q.. (%d)", s, len(s))
	}
	return fmt.Sprintf("%q", s)
}
