package match_test

import (
	"bytes"
	"math/rand"
	"slices"
	"strings"
	"sync"
	"testing"

	"galley/api"
	"galley/match"
)

// spare is bytes with room behind them, filled with what must stay, and what would change the answer, if it were read.
func spare(s, fill string) []byte {
	return []byte(s + fill)[:len(s)]
}

// full is a list with its spare room.
func full[T any](list []T) []T { return list[:cap(list)] }

func wipe[T any](list []T, fill T) {
	for i := range full(list) {
		full(list)[i] = fill
	}
}

// asked are patterns with texts.
var asked = []struct{ pattern, text string }{
	{"a*", "baab"}, {"", "ab"}, {`\a+`, "a\xe2\x82b\xff"}, {"(ab)+c?", "ababcxab"}, {"[^a]", "ab\xffa\u20ac"}, {".", "\u20ac\xe2\x82"}, {`\xe2\x82`, "\xe2\x82"}, {"x", "ab"}, {"a", ""}, {"(a|b)*c", strings.Repeat("ab", 500) + "c"}, {"b?", strings.Repeat("ab", 500)}, {"\u20ac|\\xe2", "\xe2\u20ac\xe2"},
}

// What is handed in stays as it is, spare room too, isn't read beyond its end, and isn't kept; lists are new memory each time, spare room too.
func TestP21_6Memory(t *testing.T) {
	for _, c := range asked {
		p := read(t, c.pattern)
		plain := []byte(c.text)
		want := slices.Clone(p.All(plain))
		wantHit, _ := p.First(plain, 0)
		wantHi, _ := p.Longest(plain, 0)
		b := spare(c.text, "\x82\xacab")
		was := slices.Clone(full(b))
		one, two := p.All(b), p.All(b)
		hit, _ := p.First(b, 0)
		hi, _ := p.Longest(b, 0)
		if hit != wantHit || hi != wantHi || p.Whole(b) != p.Whole(plain) || !slices.Equal(one, want) {
			t.Errorf("%q of %q with spare room: %v, %d, %v, %v", c.pattern, c.text, hit, hi, p.Whole(b), one)
		}
		if !bytes.Equal(full(b), was) {
			t.Errorf("%q of %q: the bytes became %x", c.pattern, c.text, full(b))
		}
		wipe(one, api.Hit{Lo: 9, Hi: 8})
		wipe(b, 'a')
		if !slices.Equal(two, want) || !slices.Equal(p.All(plain), want) {
			t.Errorf("%q of %q: it became %v, then %v, want %v", c.pattern, c.text, two, p.All(plain), want)
		}
		wipe(two, api.Hit{Lo: 9, Hi: 8})
		if got := p.All(plain); !slices.Equal(got, want) || p.Text() != c.pattern {
			t.Errorf("%q of %q: then %v, want %v", p.Text(), c.text, got, want)
		}
	}
}

// A pattern keeps nothing of the text that it was read from but what Text tells.
func TestP21_6TextIsKept(t *testing.T) {
	b := []byte("[a-c]+|\u20ac")
	p := read(t, string(b))
	wipe(b, '*')
	if p.Text() != "[a-c]+|\u20ac" || !p.Whole([]byte("abc")) {
		t.Errorf("%q", p.Text())
	}
	// Two of one text, and two of others, do not come across one another.
	q, other := read(t, p.Text()), read(t, "[^a-c]*")
	other.All([]byte("abxy"))
	same(t, p, q, "xabc\u20acab")
}

// What is answered depends on the pattern and the bytes alone: again, in another order, and several at one time.
func TestR9(t *testing.T) {
	var all [][]api.Hit
	var list []*match.Pattern
	for _, c := range asked {
		p := read(t, c.pattern)
		list = append(list, p)
		all = append(all, p.All([]byte(c.text)))
	}
	var group sync.WaitGroup
	for k := range 8 {
		group.Go(func() {
			rng := rand.New(rand.NewSource(int64(k)))
			for range 300 {
				i := rng.Intn(len(asked))
				b := []byte(asked[i].text)
				first, ok := list[i].First(b, 0)
				if got := list[i].All(b); !slices.Equal(got, all[i]) || ok != (len(got) > 0) || ok && first != got[0] {
					t.Errorf("%q: All(%q): %v, %v, want %v", asked[i].pattern, asked[i].text, got, first, all[i])
				}
				list[i].Whole([]byte("abab"))
				list[i].Longest(b, rng.Intn(len(b)+1))
			}
		})
	}
	group.Wait()
}

// A pattern stays as it is, whatever other ones are read, also in vain.
func TestR4AndR9Reading(t *testing.T) {
	p := read(t, "(a|[b-c])*x")
	for _, f := range faults {
		match.Read(f.text)
	}
	match.Read(strings.Repeat("(", 100))
	if !p.Whole([]byte("abcx")) || p.Whole([]byte("abd")) || p.Text() != "(a|[b-c])*x" {
		t.Errorf("%q", p.Text())
	}
	for range 3 {
		refused(t, "a**", 2, api.ErrPattern)
		read(t, "a*")
	}
}
