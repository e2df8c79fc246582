package words_test

import (
	"fmt"
	"math"
	"math/rand"
	"slices"
	"strings"
	"testing"
	"unicode/utf8"

	"galley/api"
	"galley/words"
)

const (
	least    = math.MinInt
	greatest = math.MaxInt
)

// example is the chapter's text.
const example = "ab c_9, \u00e9x"

// wordRunes are those up to 7F that are of words.
const wordRunes = "0123456789ABCDEFGHIJKLMNOPQRSTUVWXYZabcdefghijklmnopqrstuvwxyz_"

// kindOf is a whole step's kind by the chapter's words.
func kindOf(r rune) api.WordKind {
	switch {
	case r == 0x20 || r == 0x09:
		return api.BlankKind
	case r == 0x0a || r == 0x0d:
		return api.EndKind
	case r > 0x7f || r >= 0 && strings.ContainsRune(wordRunes, r):
		return api.WordRunes
	}
	return api.OtherKind
}

// piece is a step with where it begins and ends.
type piece struct {
	lo, hi int
	r      rune
	kind   api.WordKind
}

// steps are a text's, by the library.
func steps(s string) []piece {
	var all []piece
	for p := 0; p < len(s); {
		r, n := utf8.DecodeRuneInString(s[p:])
		kind := kindOf(r)
		if r == utf8.RuneError && n == 1 {
			kind = api.BadKind
		}
		all = append(all, piece{p, p + n, r, kind})
		p += n
	}
	return all
}

// run is a longest row of steps of one kind.
type run struct {
	api.Hit
	kind api.WordKind
}

func runs(s string) []run {
	var all []run
	for _, p := range steps(s) {
		if n := len(all); n > 0 && all[n-1].kind == p.kind {
			all[n-1].Hi = p.hi
			continue
		}
		all = append(all, run{api.Hit{Lo: p.lo, Hi: p.hi}, p.kind})
	}
	return all
}

func wordsOf(s string) []api.Hit {
	var all []api.Hit
	for _, r := range runs(s) {
		if r.kind == api.WordRunes {
			all = append(all, r.Hit)
		}
	}
	return all
}

func around(s string, place int) (api.Hit, api.WordKind) {
	var found run
	for _, r := range runs(s) {
		if r.Lo <= place && place < r.Hi || place == len(s) {
			found = r
		}
	}
	return found.Hit, found.kind
}

func next(s string, place int) int {
	for _, w := range wordsOf(s) {
		if w.Lo > place {
			return w.Lo
		}
	}
	return len(s)
}

func prev(s string, place int) int {
	found := 0
	for _, w := range wordsOf(s) {
		if w.Lo < place {
			found = w.Lo
		}
	}
	return found
}

// line is where one begins, and where its content ends.
type line struct{ lo, hi int }

// cut finds the lines by the library's splitting: CR LF first, then what of CR and LF is left alone.
func cut(s string) []line {
	var all []line
	at := 0
	crlfs := strings.Split(s, "\r\n")
	for i, between := range crlfs {
		parts := strings.Split(strings.ReplaceAll(between, "\r", "\n"), "\n")
		for k, p := range parts {
			all = append(all, line{at, at + len(p)})
			at += len(p)
			if k < len(parts)-1 {
				at++
			}
		}
		if i < len(crlfs)-1 {
			at += 2
		}
	}
	return all
}

func column(s string, place, w int) int {
	var of line
	for _, l := range cut(s) {
		if l.lo <= place {
			of = l
		}
	}
	n := 0
	for _, p := range steps(s) {
		switch {
		case p.lo < of.lo || p.hi > place || p.lo >= of.hi:
		case p.r == '\t' && p.kind == api.BlankKind:
			for n++; n%w != 0; {
				n++
			}
		default:
			n++
		}
	}
	return n
}

// wrap is the chapter's words, one by one.
func wrap(s string, w int) []int {
	var breaks []int
	all := steps(s)
	for _, l := range cut(s) {
		for begin := l.lo; ; {
			var ahead []piece
			for _, p := range all {
				if p.lo >= begin && p.hi <= l.hi {
					ahead = append(ahead, p)
				}
			}
			if len(ahead) <= w {
				break
			}
			at := ahead[w-1].hi
			for i := w - 1; i >= 0; i-- {
				if ahead[i].kind == api.BlankKind {
					at = ahead[i].hi
					break
				}
			}
			breaks = append(breaks, at)
			begin = at
		}
	}
	return breaks
}

// widths are those for which a short text is asked.
var widths = []int{1, 2, 3, 4, 5, 8, 65535, 65536}

// hold holds all calls of a text, at all places, against the model.
func hold(t *testing.T, s string, ws ...int) {
	t.Helper()
	b := []byte(s)
	if got, want := words.All(b), wordsOf(s); !slices.Equal(got, want) {
		t.Fatalf("All of %q: %v, want %v", s, got, want)
	}
	for place := 0; place <= len(s); place++ {
		want, wantKind := around(s, place)
		if got, kind, e := words.Around(b, place); got != want || kind != wantKind || e != api.OK {
			t.Fatalf("Around %q, %d: %v %d %d, want %v %d", s, place, got, kind, e, want, wantKind)
		}
		if got, e := words.Next(b, place); got != next(s, place) || e != api.OK {
			t.Fatalf("Next of %q, %d: %d %d, want %d", s, place, got, e, next(s, place))
		}
		if got, e := words.Prev(b, place); got != prev(s, place) || e != api.OK {
			t.Fatalf("Prev of %q, %d: %d %d, want %d", s, place, got, e, prev(s, place))
		}
		for _, w := range ws {
			if got, e := words.Column(b, place, w); got != column(s, place, w) || e != api.OK {
				t.Fatalf("Column of %q, %d, %d: %d %d, want %d", s, place, w, got, e, column(s, place, w))
			}
		}
	}
	for _, w := range ws {
		if got, e := words.Wrap(b, w); !slices.Equal(got, wrap(s, w)) || e != api.OK {
			t.Fatalf("Wrap of %q, %d: %v %d, want %v", s, w, got, e, wrap(s, w))
		}
	}
}

// short goes over all texts of at most n of the things.
func short(n int, things []string, each func(string)) {
	var longer func(s string, left int)
	longer = func(s string, left int) {
		each(s)
		for _, thing := range things {
			if left > 0 {
				longer(s+thing, left-1)
			}
		}
	}
	longer("", n)
}

// All short texts of steps of each kind.
func TestP22_1To6ShortTexts(t *testing.T) {
	t.Parallel()
	short(5, []string{"a", " ", "\t", "\r", "\n", "-", "\u00e9", "\xff"}, func(s string) { hold(t, s, 1, 2, 3) })
}

// All short texts of blanks and letters: what of several blanks is the last one.
func TestP22_6ShortLines(t *testing.T) {
	t.Parallel()
	short(9, []string{"a", " ", "\n"}, func(s string) {
		for w := 1; w <= 5; w++ {
			if got, e := words.Wrap([]byte(s), w); !slices.Equal(got, wrap(s, w)) || e != api.OK {
				t.Fatalf("Wrap of %q, %d: %v %d, want %v", s, w, got, e, wrap(s, w))
			}
		}
	})
}

// All short texts of bytes that may or may not be an encoding together.
func TestP22_2To6BytesThatJoin(t *testing.T) {
	t.Parallel()
	short(5, []string{"\xe2", "\x82", "\xac", "\xc3", " ", "b"}, func(s string) { hold(t, s, 1, 2) })
	short(5, []string{"\xf0", "\x9f", "\x98", "\x80", "\n"}, func(s string) { hold(t, s, 2) })
	short(4, []string{"\xed", "\xa0", "\x80", "\xef", "\xbf", "\xbd", "\xc0", "\xf4"}, func(s string) { hold(t, s, 1) })
}

// pieces of texts by chance.
var pieces = []string{"a", "word", "B_9", " ", "  ", "\t", "\t\t", "\n", "\r", "\r\n", "-", ", ", "\u00e9", "\u20ac", "\U0001f600", "\xff", "\xe2\x82", "\x82", "\xf0\x9f\x98", "\x00", "\u2028", "\ufffd", "\u00a0", "\x7f", "\v"}

func byChance(r *rand.Rand, n int, things []string) string {
	var s strings.Builder
	for range n {
		s.WriteString(things[r.Intn(len(things))])
	}
	return s.String()
}

func TestP22_2To6LongTexts(t *testing.T) {
	t.Parallel()
	for seed := range int64(120) {
		r := rand.New(rand.NewSource(seed))
		hold(t, byChance(r, 1+r.Intn(60), pieces), widths...)
		// Fewer kinds, so that runs and lines are long.
		few := make([]string, 2+r.Intn(3))
		for i := range few {
			few[i] = pieces[r.Intn(len(pieces))]
		}
		hold(t, byChance(r, 40, few), 1+r.Intn(6), 1+r.Intn(20))
	}
}

// The model is held against what the chapter says.
func TestModel(t *testing.T) {
	got := fmt.Sprint(wordsOf(example), next(example, 3), prev(example, 8), column(example, 11, 4), column("a\tb", 2, 4), column("ab\r\nc", 3, 8), wrap("aa bb cc", 5), wrap("aa bb cc", 4), wrap("abcdef\ngh", 2), cut("a\r\n\n\rb"))
	if want := "[{0 2} {3 6} {8 11}] 8 3 10 4 2 [3] [3 6] [2 4] [{0 1} {3 3} {4 4} {5 6}]"; got != want {
		t.Errorf("%s, want %s", got, want)
	}
}
