package match_test

import (
	"fmt"
	"math/rand"
	"regexp"
	"slices"
	"strconv"
	"strings"
	"testing"
	"unicode/utf8"

	"galley/api"
	"galley/match"
)

// refused holds a text against the place and the error that are wanted.
func refused(t testing.TB, text string, at int, err api.Errno) {
	t.Helper()
	if p, place, e := match.Read(text); p != nil || place != at || e != err {
		t.Errorf("Read(%s): %v, %d, %d, want %d, %d", short(text), p != nil, place, e, at, err)
	}
}

func TestP21_1ExamplesOfFaults(t *testing.T) {
	for text, at := range map[string]int{
		"a**": 2, "*": 0, "(a": 2, "a)": 1, "[]": 1, "[^]": 2, "[b-a]": 1, "[a": 2, `\x7f`: 0, `\u{d800}`: 0, `a\q`: 1, "a]": 1, "[a-": 3, "[-a]": 1, "a\xff": 1, `[\x80-\x90]`: 1,
	} {
		refused(t, text, at, api.ErrPattern)
	}
}

// Faults by themselves, each with its place in the text.
var faults = []struct {
	text string
	at   int
	// atEnd: it is one only where the text ends.
	atEnd bool
}{
	{"*", 0, false}, {"+", 0, false}, {"?", 0, false},
	{"a**", 2, false}, {"a*+", 2, false}, {"a+?", 2, false}, {"a??", 2, false}, {"a?*", 2, false}, {"a***", 2, false},
	{"(*)", 1, false}, {"(|+)", 2, false}, {"a|?", 2, false}, {"()**", 3, false}, {".**", 2, false}, {"[a]**", 4, false}, {`\n**`, 3, false}, {"\u20ac**", 4, false},
	{"]", 0, false}, {"a]", 1, false}, {"[a]]", 3, false}, {"()]", 2, false}, {"|]", 1, false},
	{"[]", 1, false}, {"[]a]", 1, false}, {"[^]", 2, false}, {"[^]a]", 2, false}, {"[-", 1, false}, {"[-a]", 1, false}, {"[^-a]", 2, false}, {"[-]", 1, false},
	{"[a-]", 3, false}, {"[a--]", 3, false}, {"[a-b-c]", 4, false}, {"[a-b-]", 4, false}, {`[\a-]`, 4, false}, {`[\x80-]`, 6, false}, {`[\a\a--]`, 6, false},
	{"[b-a]", 1, false}, {"[b-a", 1, false}, {"[xb-a]", 2, false}, {"[a-bd-c]", 4, false}, {"[^b-a]", 2, false}, {`[\u{62}-a]`, 1, false}, {`[b-\u{61}]`, 1, false}, {"[\u20ac-\u00e9]", 1, false}, {"[\u20acz-a]", 4, false}, {`[\]-[]`, 1, false}, {`[\--+]`, 1, false},
	{`[\x80-\x90]`, 1, false}, {`[\x80-a]`, 1, false}, {`[a-\x80]`, 1, false}, {`[\a-a]`, 1, false}, {`[a-\a]`, 1, false}, {`[\a-\a]`, 1, false}, {`[\a-\xff]`, 1, false}, {`[b\xff-\a]`, 2, false}, {`[z-\a]`, 1, false},
	// What is wrong with the second one comes first.
	{`[b-\q]`, 3, false}, {`[\a-\q]`, 4, false}, {`[\x80-\x7f]`, 6, false}, {`[a-\u{d800}]`, 3, false}, {`[\a-\u{}]`, 4, false}, {`[\q-\q]`, 1, false}, {`[\a--]`, 4, false},
	{`\q`, 0, false}, {`\A`, 0, false}, {`\N`, 0, false}, {`\0`, 0, false}, {`\/`, 0, false}, {`\{`, 0, false}, {`\ `, 0, false}, {"\\\n", 0, false}, {"\\\u00e9", 0, false}, {"\\\x00", 0, false}, {`\X80`, 0, false}, {`\U{61}`, 0, false}, {`[\q]`, 1, false}, {`[a\q]`, 2, false}, {`a\q`, 1, false}, {`(\q`, 1, false},
	{`\x7f`, 0, false}, {`\x00`, 0, false}, {`\x7F`, 0, false}, {`\x8g`, 0, false}, {`\xg8`, 0, false}, {`\x{80}`, 0, false}, {`\x 80`, 0, false}, {`\x-8`, 0, false}, {`[\x7f]`, 1, false}, {`[\x8]`, 1, false}, {`\x+8`, 0, false}, {`\x8_`, 0, false}, {"\\x8\uff10", 0, false},
	{`\u{}`, 0, false}, {`\u61`, 0, false}, {`\u(61)`, 0, false}, {`\u{61`, 0, false}, {`\u{61 }`, 0, false}, {`\u{ 61}`, 0, false}, {`\u{g}`, 0, false}, {`\u{6g}`, 0, false}, {`\u{-1}`, 0, false}, {`\u{1234567}`, 0, false}, {`\u{0000061}`, 0, false}, {`\u{110000}`, 0, false}, {`\u{ffffff}`, 0, false}, {`\u{d800}`, 0, false}, {`\u{DFFF}`, 0, false}, {`\u{dbff}`, 0, false}, {`\u{dc00}`, 0, false}, {`[\u{}]`, 1, false}, {`\u{6_1}`, 0, false}, {`\u{0x61}`, 0, false}, {`\u{+61}`, 0, false}, {"\\u{\uff11}", 0, false},
	{`\`, 0, true}, {`\x`, 0, true}, {`\x8`, 0, true}, {`\u`, 0, true}, {`\u{`, 0, true}, {`\u{6`, 0, true}, {`\u{000061`, 0, true}, {`[\`, 1, true}, {`[a\x8`, 2, true}, {`[a-\`, 3, true}, {`[\a-\x8`, 4, true}, {`(\`, 1, true},
	{"[", 1, true}, {"[^", 2, true}, {"[a", 2, true}, {"[a-", 3, true}, {"[a-b", 4, true}, {"[^a", 3, true}, {`[\a`, 3, true}, {`[\a-`, 4, true}, {`[\x80-`, 6, true}, {"[\u20ac", 4, true}, {"[a^", 3, true}, {"[^^", 3, true}, {"[(", 2, true},
	{"(", 1, true}, {"(a", 2, true}, {"(a|", 3, true}, {"((a)", 4, true}, {"(()", 3, true}, {"(a*", 3, true}, {"(\u20ac", 4, true}, {"a|(", 3, true}, {"([)]", 4, true}, {`(\)`, 3, true},
}

func TestP21_1FaultsAnywhere(t *testing.T) {
	// Behind which an atom may be repeated, and behind which there is none.
	atoms := []string{"a", "\u20ac", "()", "[a-z]", `\x80`, `\u{20ac}`, `\(`, "[\\]]", "[\u00e9[]", "-^{}", "a*b", "a|.", "((a)*)"}
	others := []string{"", "|", "ab|", "\u20ac|", "a*", "(a|b)+", ".?", "()?"}
	behind := []string{"", "a", "*", "|", "(", ")", "[", "]", `\q`, "[]", "a**", `\`, "\u20ac", "[b-a]"}
	for _, f := range faults {
		for _, a := range append(others, atoms...) {
			if strings.ContainsAny(f.text[:1], "*+?") && slices.Contains(atoms, a) {
				continue
			}
			for _, b := range behind {
				if !f.atEnd || b == "" {
					refused(t, a+f.text+b, len(a)+f.at, api.ErrPattern)
				}
			}
		}
		for _, a := range []string{"(", "((", "(a|(", "(()(", "()(a*", "a((b|)?|"} {
			refused(t, a+f.text, len(a)+f.at, api.ErrPattern)
		}
	}
}

func TestP21_1ClosingNothing(t *testing.T) {
	for text, at := range map[string]int{
		")": 0, "a)": 1, "())": 2, "(a))": 3, "a|)": 2, "|)": 1, ")(": 0, "a*)": 2, "(a)(b)c)": 7, "[)])": 3, `\))`: 2, ")*": 0, ")]": 0, `)\q`: 0, "a)\u20ac": 1, "((a))|(b))": 9,
	} {
		refused(t, text, at, api.ErrPattern)
	}
}

// Of two faults the first one counts.
func TestP21_1TwoFaults(t *testing.T) {
	for text, at := range map[string]int{
		"*)": 0, ")*": 0, "a**)": 2, "a)**": 1, `\q*`: 0, `a**\q`: 2, "[]\\q": 1, "[b-a]*)": 1, "]]": 0, "(]": 1, "(]]": 1, "(*": 1, `(\`: 1, "[b-a\\q": 1, "(a**": 3, "([": 2, "([a": 3, "([b-a": 2, `[b-\q-a]`: 3, `\u{d800}\x7f`: 0, `[\x7f-\a]`: 1, `[z-a\q]`: 1, `[z-\qa]`: 3,
	} {
		refused(t, text, at, api.ErrPattern)
	}
}

// longest are patterns of as many bytes as there may be.
func longest() []string {
	const most = api.MaxPattern
	return []string{
		strings.Repeat("a", most), strings.Repeat("|", most), strings.Repeat("()", most/2), strings.Repeat("a*", most/2), strings.Repeat("\u20ac", most/3) + "a", strings.Repeat("\U0001F600", most/4), strings.Repeat(`\xff`, most/4), strings.Repeat(`\a`, most/2), strings.Repeat(`\u{61}`, most/6) + "....", "[" + strings.Repeat("ab", most/2-1) + "]", "[" + strings.Repeat("a-b", most/3-1) + "c]*", strings.Repeat("(", 64) + strings.Repeat("b", most-128) + strings.Repeat(")", 64), strings.Repeat("[^a]", most/4), strings.Repeat("(a|b)", most/5) + "....",
	}
}

func TestP21_1TooLong(t *testing.T) {
	for _, s := range longest() {
		if len(s) != api.MaxPattern {
			t.Fatalf("%s has %d bytes", short(s), len(s))
		}
		read(t, s)
		// With one byte more, or many, whatever else is wrong.
		for _, more := range []string{"a", "\xff", "*", ")", "\u20ac", s, strings.Repeat("(", 100)} {
			refused(t, s+more, api.MaxPattern, api.ErrPattern)
			refused(t, more+s, api.MaxPattern, api.ErrPattern)
		}
	}
	for _, s := range []string{"a", "\xff", "(", ")", "*", "\u20ac", `\q`, "[b-a]"} {
		refused(t, strings.Repeat(s, api.MaxPattern/len(s)+1), api.MaxPattern, api.ErrPattern)
		refused(t, strings.Repeat(s, 1<<20), api.MaxPattern, api.ErrPattern)
	}
	refused(t, strings.Repeat("a", api.MaxPattern-1)+"\u00e9", api.MaxPattern, api.ErrPattern)
	read(t, strings.Repeat("a", api.MaxPattern-1)+"*")
}

// The first bad step comes ahead of all that is wrong with the pattern, wherever it stands.
func TestP21_1BadSteps(t *testing.T) {
	const most = api.MaxPattern
	for text, at := range map[string]int{
		"\xff": 0, "a\xff": 1, "\xe2\x82": 0, "\u20ac\x82": 3, "\u20ac\xe2\x82": 3, "*\xff": 1, ")\xff": 1, "[]\xff": 2, "\xff*": 0, "\\\xff": 1, "\\x\xff": 2, "[\xff]": 1, "[a-\xff]": 3, "[b-a]\xff": 5, "\ufffd\xff": 3, "\ufffd\ufffda\xef\xbf": 7, "(\xc3": 1, "\xed\xa0\x80": 0, "\xc0\x80": 0, "a\xf4\x90\x80\x80": 1, "\xff\xff": 0, "a**\x80": 3,
		strings.Repeat("(", 65) + "\xff": 65, strings.Repeat("(", 200) + "\xff)": 200, strings.Repeat("a", most-1) + "\xff": most - 1, "\xff" + strings.Repeat("*", most-1): 0, strings.Repeat("a", most-1) + "\xc3\xa9"[:1]: most - 1,
	} {
		refused(t, text, at, api.ErrPattern)
	}
	// Too long comes first; an encoding that is cut off there is no bad step.
	for _, text := range []string{"\xff" + strings.Repeat("a", most), strings.Repeat("\xff", most+1), strings.Repeat("a", most) + "\xff", strings.Repeat("a", most-1) + "\xff\xff"} {
		refused(t, text, most, api.ErrPattern)
	}
	for x := 0x80; x <= 0xFF; x++ {
		refused(t, "ab"+string([]byte{byte(x)}), 2, api.ErrPattern)
		refused(t, string([]byte{byte(x)})+"|b", 0, api.ErrPattern)
	}
}

func TestP21_1TooDeep(t *testing.T) {
	const most = api.MaxDepth
	open, shut := strings.Repeat("(", most), strings.Repeat(")", most)
	for _, text := range []string{
		open + shut, open + "a" + shut, open + "a|b" + shut + "*", "a|" + open + "a" + shut, open + "a" + shut + open + "b" + shut, strings.Repeat("()", 500), "(" + strings.Repeat("()", 100) + ")", open + `\(` + shut, open + "[(]" + shut, strings.Repeat("(a|", most) + strings.Repeat(")*", most), strings.Repeat(`\(`, 500), "[" + strings.Repeat("(", 500) + "]", open[1:] + "()()()" + shut[1:],
	} {
		read(t, text)
	}
	for text, at := range map[string]int{
		open + "(": most, open + "()" + shut: most, open + "(a" + shut + ")": most, strings.Repeat("(", 500): most, "a" + open + "(": most + 1, "\u20ac|" + open + "(": most + 4, open + shut + open + "(": 3 * most, strings.Repeat("(a|", most+1): 3 * most, open[1:] + "()(a)((": most + 5, open + `\((`: most + 2, open + "[(](": most + 3,
		// Beside another fault: the first one counts.
		open + "(*": most, open + `(\q`: most, open + "([": most, open + "()" + shut + ")": most, open + "(]": most,
	} {
		refused(t, text, at, api.ErrDeep)
	}
	for text, at := range map[string]int{
		open + "*(": most, open + "](": most, open + `\q(`: most, "*" + open + "(": 0, ")" + open + "(": 0, open + "[](": most + 1, open + "a**(": most + 2, open + shut + ")(": 2 * most, open: most, open + "a": most + 1, open + shut[1:]: 2*most - 1, open + `[b-a](`: most + 1,
	} {
		refused(t, text, at, api.ErrPattern)
	}
}

// Each byte behind a backslash, alone and in brackets: which it stands for.
func TestP21_1EveryEscape(t *testing.T) {
	stands := map[byte]string{'n': "\n", 'r': "\r", 't': "\t"}
	for _, c := range []byte(`()[].*+?|\-^`) {
		stands[c] = string(c)
	}
	for x := range 0x80 {
		for _, around := range [][2]string{{"", ""}, {"[", "]"}, {"(", ")"}, {"b|", ""}} {
			text := around[0] + `\` + string(rune(x)) + around[1]
			s, ok := stands[byte(x)]
			if x == 'a' {
				s, ok = "\x9f", true
			}
			if !ok {
				refused(t, text, len(around[0]), api.ErrPattern)
				continue
			}
			p := read(t, text)
			for y := range 256 {
				b := []byte{byte(y)}
				if want := string(b) == s || x == 'a' && y >= 0x80 || y == 'b' && around[0] == "b|"; p.Whole(b) != want {
					t.Errorf("%q on %x: %v", text, y, !want)
				}
			}
		}
	}
}

// Every two things behind \x: which byte they stand for.
func TestP21_1EveryBadByte(t *testing.T) {
	for x := range 0x100 {
		for y := range 0x80 {
			text := `\x` + string(rune(x)) + string(rune(y))
			n, err := strconv.ParseUint(text[2:], 16, 8)
			if err != nil || n < 0x80 || strings.ContainsAny(text[2:], "_+-") {
				refused(t, text, 0, api.ErrPattern)
				continue
			}
			p := read(t, text)
			for b := range 256 {
				if p.Whole([]byte{byte(b)}) != (b == int(n)) {
					t.Errorf("%q on %x", text, b)
				}
			}
		}
	}
}

// Every number that a rune's escape may be written with, and some beyond.
func TestP21_1EveryRuneByNumber(t *testing.T) {
	t.Parallel()
	for n := range rune(0x110100) {
		if n >= 0x3000 && n < 0x10FF00 && n%7 != 0 && (n < 0xD700 || n > 0x10100) {
			continue
		}
		text := fmt.Sprintf(`\u{%x}`, n)
		if n%2 == 1 {
			text = fmt.Sprintf(`\u{%06X}`, n)
		}
		if !utf8.ValidRune(n) {
			refused(t, text, 0, api.ErrPattern)
			continue
		}
		p := read(t, text)
		if !p.Whole([]byte(string(n))) || p.Whole([]byte(string(n+1))) && utf8.ValidRune(n+1) || p.Whole([]byte{'a'}) != (n == 'a') || p.Whole([]byte{0xFF}) {
			t.Fatalf("%q", text)
		}
	}
}

// escape is the chapter's form of one, by the library's patterns.
var escape = regexp.MustCompile(`^\\(?:[()\[\].*+?|\\\-^nrta]|x[89a-fA-F][0-9a-fA-F]|u\{[0-9a-fA-F]{1,6}\})`)

// escaped is how long the escape is with which a text begins; 0: it may not be. ends: it stands for one rune, and for which.
func escaped(text string) (n int, r rune, ends bool) {
	e := escape.FindString(text)
	switch {
	case e == "":
		return 0, 0, false
	case e[1] == 'u':
		v, _ := strconv.ParseUint(e[3:len(e)-1], 16, 32)
		if !utf8.ValidRune(rune(v)) {
			return 0, 0, false
		}
		return len(e), rune(v), true
	case e[1] == 'x' || e[1] == 'a':
		return len(e), 0, false
	}
	named := map[byte]rune{'n': '\n', 'r': '\r', 't': '\t'}
	if c, ok := named[e[1]]; ok {
		return len(e), c, true
	}
	return len(e), rune(e[1]), true
}

// fault is the first fault of a text, by the chapter's words: it goes from token to token, and counts the open parentheses. OK: there is none.
func fault(text string) (int, api.Errno) {
	open, atom := 0, false
	for i := 0; i < len(text); {
		n := 1
		switch c := text[i]; c {
		case '(':
			if open == api.MaxDepth {
				return i, api.ErrDeep
			}
			open++
			atom = false
		case ')':
			if open == 0 {
				return i, api.ErrPattern
			}
			open--
			atom = true
		case '|':
			atom = false
		case '*', '+', '?':
			if !atom {
				return i, api.ErrPattern
			}
			atom = false
		case ']':
			return i, api.ErrPattern
		case '[':
			end, at := bracketed(text, i+1)
			if at >= 0 {
				return at, api.ErrPattern
			}
			n, atom = end-i, true
		case '\\':
			n, _, _ = escaped(text[i:])
			if n == 0 {
				return i, api.ErrPattern
			}
			atom = true
		default:
			_, n = utf8.DecodeRuneInString(text[i:])
			atom = true
		}
		i += n
	}
	if open > 0 {
		return len(text), api.ErrPattern
	}
	return 0, api.OK
}

// bracketed: where the bracket ends that began ahead of i, or the place of its fault.
func bracketed(text string, i int) (end, at int) {
	if strings.HasPrefix(text[i:], "^") {
		i++
	}
	for begin := i; ; {
		if i > begin && strings.HasPrefix(text[i:], "]") {
			return i + 1, -1
		}
		n, r, ends := oneOf(text[i:])
		if n == 0 {
			return 0, i
		}
		if !strings.HasPrefix(text[i+n:], "-") {
			i += n
			continue
		}
		m, s, too := oneOf(text[i+n+1:])
		switch {
		case m == 0:
			return 0, i + n + 1
		case !ends || !too || r > s:
			return 0, i
		}
		i += n + 1 + m
	}
}

// oneOf is how long the single is with which a text begins, as escaped does.
func oneOf(text string) (n int, r rune, ends bool) {
	if text == "" || text[0] == ']' || text[0] == '-' {
		return 0, 0, false
	}
	if text[0] == '\\' {
		return escaped(text)
	}
	r, n = utf8.DecodeRuneInString(text)
	return n, r, true
}

// holdRead holds Read on a text of whole steps against the model.
func holdRead(t *testing.T, text string) {
	t.Helper()
	at, err := fault(text)
	p, place, e := match.Read(text)
	if place != at || e != err || (p == nil) != (err != api.OK) {
		t.Fatalf("Read(%q): %v, %d, %d, want %d, %d", text, p != nil, place, e, at, err)
	}
}

// All short texts of what makes a pattern.
func TestP21_1ReadOfShortTexts(t *testing.T) {
	for _, c := range []struct {
		most int
		some []string
	}{
		{6, strings.Split("a|(|)|*|[|]|-|^", "|")},
		{6, []string{"a", "|", "(", ")", "*", "?"}},
		{8, []string{"(", ")", "|", "+"}},
		{6, []string{"[", "]", "^", "-", "a", "b", `\a`}},
		{5, []string{"[", "]", "-", "a", "b", `\`, "x", "8", "\u20ac"}},
		{5, []string{`\u{`, "}", "6", "1", "[", "]", "-", "d800", `\x`}},
		{4, []string{"a", "(", ")", "[", "]", ".", "*", "+", "?", "|", `\`, "-", "^", "n", "u{", "}", "\u00e9", "\n", "0", "F"}},
		{6, []string{`\`, "x", "u", "{", "}", "8", "f"}},
	} {
		t.Run(strings.Join(c.some, ""), func(t *testing.T) {
			t.Parallel()
			for _, text := range texts(0, c.most, c.some...) {
				holdRead(t, text)
			}
		})
	}
}

// Long ones by chance: patterns, and such with a piece put in, or taken out.
func TestP21_1ReadByChance(t *testing.T) {
	t.Parallel()
	rng := rand.New(rand.NewSource(67))
	some := []string{"a", "b", "(", ")", "[", "]", ".", "*", "+", "?", "|", `\`, "-", "^", "{", "}", `\x80`, `\u{20ac}`, `\a`, `\x7f`, `\u{d800}`, "\u20ac", "[a-b]", "[b-a]"}
	for range 20000 {
		s := shapeOf(rng, rng.Intn(8)).text
		if len(s) > api.MaxPattern-20 {
			continue
		}
		read(t, s)
		for range 5 {
			list := steps(s)
			lo := rng.Intn(len(list) + 1)
			hi := min(len(list), lo+rng.Intn(3))
			holdRead(t, strings.Join(list[:lo], "")+byChance(rng, rng.Intn(3), some)+strings.Join(list[hi:], ""))
		}
		holdRead(t, byChance(rng, rng.Intn(40), some))
	}
}
