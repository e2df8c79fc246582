package find_test

import (
	"fmt"
	"math/rand"
	"slices"
	"strings"
	"testing"

	"galley/api"
	"galley/find"
	"galley/rope"
)

// pieces are steps and parts of steps of each kind.
var pieces = []string{
	"a", "A", "b", "\r\n", "\u00e9", "\u20ac", "\ufffd", "\U0001F600", "\U0010FFFF",
	"\xc3", "\xe2", "\xe2\x82", "\xf0", "\xf0\x9f", "\xf0\x9f\x98", "\x80", "\x98\x80", "\x9f\x98\x80", "\xac", "\x82\xac", "\xff",
	"\xed\xa0\x80", "\xc0\x80", "\xe0\x80\x80", "\xf4\x90\x80\x80",
}

// byChance is a text of n bytes out of some, cut at its end.
func byChance(rng *rand.Rand, n int, some []string) string {
	var b strings.Builder
	for b.Len() < n {
		b.WriteString(some[rng.Intn(len(some))])
	}
	return b.String()[:n]
}

// longTexts are texts of one leaf, directly below, at and above a leaf's size, and of several leaves: of all kinds of steps, of bad bytes alone, and with encodings over each place where leaves may meet.
func longTexts() []string {
	var all []string
	rng := rand.New(rand.NewSource(20))
	for _, n := range []int{1023, 4095, 4096, 4097, 4100, 8193, 10000} {
		all = append(all, byChance(rng, n, pieces), byChance(rng, n, []string{"a", "b", "A", "B"}))
	}
	all = append(all, strings.Repeat("\x80", 8200), strings.Repeat("\xf0", 8200), strings.Repeat("a", 9000), strings.Repeat("ab", 4500))
	for ahead := range 4 {
		for _, s := range []string{"\U0001F600", "\u20ac", "\u00e9", "\xf0\x9f\x98", "\xe2\x82"} {
			all = append(all, strings.Repeat("x", ahead)+strings.Repeat(s, 8400/len(s)))
		}
	}
	return all
}

// manyPlaces are places of a text of n bytes: those at its ends, around the sizes at which leaves may meet, some others, and some that are none.
func manyPlaces(n int) []int {
	places := []int{-1, n + 1}
	for _, base := range []int{0, 1024, 4096, 8192, n / 2, n} {
		for p := base - 4; p <= base+4; p++ {
			if p >= 0 && p <= n {
				places = append(places, p)
			}
		}
	}
	for p := 7; p < n; p += n/11 + 1 {
		places = append(places, p)
	}
	return places
}

// fifth is every fifth of a list, from the k-th on.
func fifth(list []int, k int) []int {
	var all []int
	for i := k % 5; i < len(list); i += 5 {
		all = append(all, list[i])
	}
	return all
}

// made is the rope of a text that is short enough.
func made(t testing.TB, s string) *rope.Rope {
	t.Helper()
	r, err := rope.New([]byte(s))
	if r == nil || err != api.OK {
		t.Fatalf("New of %d bytes: %v, %d", len(s), r, err)
	}
	return r
}

func join(t testing.TB, a, b *rope.Rope) *rope.Rope {
	t.Helper()
	r, err := rope.Join(a, b)
	if r == nil || err != api.OK {
		t.Fatalf("Join of %d bytes and %d: %v, %d", a.Len(), b.Len(), r, err)
	}
	return r
}

func replace(t testing.TB, r *rope.Rope, lo, hi int, text string) *rope.Rope {
	t.Helper()
	s, err := r.Replace(lo, hi, []byte(text))
	if s == nil || err != api.OK {
		t.Fatalf("Replace(%d, %d, %d bytes) of %d bytes: %v, %d", lo, hi, len(text), r.Len(), s, err)
	}
	return s
}

// ways are unlike makes of ropes with the same bytes.
var ways = map[string]func(t testing.TB, s string) *rope.Rope{
	"New": func(t testing.TB, s string) *rope.Rope { return made(t, s) },
	"joined of halves": func(t testing.TB, s string) *rope.Rope {
		return join(t, made(t, s[:len(s)/2]), made(t, s[len(s)/2:]))
	},
	"byte by byte at the end": func(t testing.TB, s string) *rope.Rope {
		r := made(t, "")
		for i := range len(s) {
			r = join(t, r, made(t, s[i:i+1]))
		}
		return r
	},
	"byte by byte at the beginning": func(t testing.TB, s string) *rope.Rope {
		r := made(t, "")
		for i := len(s); i > 0; i-- {
			r = replace(t, r, 0, 0, s[i-1:i])
		}
		return r
	},
	"in pieces of unlike sizes": func(t testing.TB, s string) *rope.Rope {
		r := made(t, "")
		for n := 1; len(s) > 0; n = n*7%2003 + 1 {
			k := min(n, len(s))
			r, s = join(t, r, made(t, s[:k])), s[k:]
		}
		return r
	},
	"split out of a longer one": func(t testing.TB, s string) *rope.Rope {
		r := made(t, "\xf0\x9f"+strings.Repeat("\u20aca", 700)+s+"\x82\xac"+strings.Repeat("b", 5000))
		_, r, _ = r.Split(2802)
		r, _, _ = r.Split(len(s))
		return r
	},
	"dropped out of a longer one": func(t testing.TB, s string) *rope.Rope {
		k := len(s) / 3
		return replace(t, made(t, s[:k]+strings.Repeat("\x82a", 3000)+s[k:]), k, k+6000, "")
	},
	"put into others": func(t testing.TB, s string) *rope.Rope {
		k, l := len(s)/3, len(s)*2/3
		return replace(t, made(t, s[:k]+"\r\xe2\x82"+s[l:]), k, k+3, s[k:l])
	},
}

// needlesOf are needles for a text: pieces of it of many lengths, about its ends and the places where leaves may meet, and such with another byte at an end.
func needlesOf(s string) []string {
	var all []string
	for _, n := range []int{1, 2, 3, 4, 5, 9, 100, 4095, 4096, 4097, 4100, 8192, len(s) - 1, len(s), len(s) + 1} {
		for _, lo := range []int{0, 1, 4096 - n - 1, 4096 - n, 4096 - n/2, 4095, 4096, 8192 - n/2, len(s) - n - 1, len(s) - n} {
			if lo < 0 || lo+n > len(s) {
				continue
			}
			all = append(all, s[lo:lo+n], s[lo:lo+n-1]+"q", "Q"+s[lo+1:lo+n])
		}
	}
	all = append(all, s+"a", s+s)
	slices.Sort(all)
	return slices.Compact(all)
}

// Ropes of several leaves: needles over each joint, as long as a leaf, longer, and as long as the text.
func TestP20_1LongTexts(t *testing.T) {
	for i, s := range longTexts() {
		t.Run(fmt.Sprint(i, " ", len(s)), func(t *testing.T) {
			t.Parallel()
			r := made(t, s)
			places := manyPlaces(len(s))
			for k, needle := range needlesOf(s) {
				hold(t, r, s, needle, k%2 == 1, fifth(places, k))
			}
			for k, needle := range pieces {
				hold(t, r, s, needle, false, fifth(places, i+k))
				holdReplace(t, r, s, needle, "\u20ac", true)
			}
		})
	}
}

// One place at which the needle stands, at and around each place where leaves and what is read at one time may meet, looked for from everywhere.
func TestP20_1OnePlace(t *testing.T) {
	t.Parallel()
	for _, needle := range []string{"q", "\u20ac", "q\xf0\x9f\x98\x80", "\x82", "\xe2\x82", "\xf0\x9f\x98", "\x9f\x98\x80", "qqqqqqqqqr"} {
		for _, base := range []int{0, 2048, 4096, 8192, 12000} {
			for lo := max(0, base-12); lo <= min(base+12, 12000); lo++ {
				s := strings.Repeat("x", lo) + needle + strings.Repeat("x", 12000-lo)
				r := made(t, s)
				hi := lo + len(needle)
				for _, from := range []int{0, 1, 2, 3, 5, lo - 4097, lo - 4096, lo - 4095, lo - 1, lo, lo + 1, hi - 1, hi, hi + 1, hi + 4095, hi + 4096, hi + 4097, hi + 4098, len(s) - 1, len(s)} {
					if from >= 0 && from <= len(s) {
						holdNear(t, r, s, needle, false, []int{lo}, from)
					}
				}
				if hits, err := find.All(r, []byte(needle), false); !slices.Equal(hits, []api.Hit{{Lo: lo, Hi: hi}}) || err != api.OK {
					t.Fatalf("All(%+q at %d): %v, %d", needle, lo, hits, err)
				}
			}
		}
	}
}

// Encodings at and around the same places: no piece of them stands there, from wherever one looks.
func TestP20_1PiecesOfEncodings(t *testing.T) {
	t.Parallel()
	for _, rune := range []string{"\u00e9", "\u20ac", "\U0001F600"} {
		for base := 4096 - 8; base <= 4096+8; base++ {
			s := strings.Repeat("x", base) + rune + strings.Repeat("x", 6000)
			r := made(t, s)
			for lo := range len(rune) {
				for hi := lo + 1; hi <= len(rune); hi++ {
					var places []int
					if hi-lo == len(rune) {
						places = []int{base}
					}
					for from := 0; from < len(s); from += 509 {
						holdNear(t, r, s, rune[lo:hi], false, places, from)
					}
					for from := base - 5; from <= base+9; from++ {
						holdNear(t, r, s, rune[lo:hi], false, places, from)
						holdNear(t, r, s, rune[lo:hi], false, places, from-4096+8)
						holdNear(t, r, s, rune[lo:hi], false, places, from+4096)
					}
				}
			}
		}
	}
}

// What is found hangs on the bytes alone, however the rope was put together.
func TestP20_3HoweverPutTogether(t *testing.T) {
	some := append(longTexts()[:14], "", "a", example, "\xe2\x82\xac", "\U0001F600\x80", strings.Repeat("\U0001F600", 2100), strings.Repeat("aab", 3000))
	for name, way := range ways {
		t.Run(name, func(t *testing.T) {
			t.Parallel()
			for i, s := range some {
				r, plain := way(t, s), made(t, s)
				if !rope.Same(r, plain) {
					t.Fatalf("text %d: the rope has other bytes", i)
				}
				for k, needle := range append(pieces[:len(pieces):len(pieces)], "aab", "abaab", s+"a") {
					hold(t, r, s, needle, true, fifth(manyPlaces(len(s)), k))
					holdReplace(t, r, s, needle, "\xac", false)
				}
			}
		})
	}
}

// A text that came out of many edits by chance.
func TestP20_3BehindEdits(t *testing.T) {
	t.Parallel()
	rng := rand.New(rand.NewSource(3))
	s := ""
	r := made(t, s)
	for range 150 {
		lo := rng.Intn(len(s) + 1)
		hi := min(len(s), lo+rng.Intn(5)*rng.Intn(5))
		text := byChance(rng, rng.Intn(7)*rng.Intn(7)*rng.Intn(7), pieces)
		r, s = replace(t, r, lo, hi, text), s[:lo]+text+s[hi:]
		needle := pieces[rng.Intn(len(pieces))]
		hold(t, r, s, needle, rng.Intn(2) == 0, []int{0, lo, hi, min(len(s), lo+len(text)), len(s), rng.Intn(len(s) + 1)})
		if len(s) > 0 {
			lo := rng.Intn(len(s))
			needle = s[lo : lo+1+rng.Intn(min(len(s)-lo, 40))]
			hold(t, r, s, needle, false, []int{0, lo, min(len(s), lo+len(needle)), len(s)})
		}
	}
}

// Needles that go over themselves in other ways, and much of which stands in the text ahead of where they do.
func TestP20_1OverThemselves(t *testing.T) {
	t.Parallel()
	one, other := "a", "ab"
	var chain []string
	for len(other) < 6000 {
		one, other = other, other+one
		chain = append(chain, other)
	}
	s := other
	r := made(t, s)
	for _, needle := range chain {
		hold(t, r, s, needle, false, manyPlaces(len(s)))
		hold(t, r, s, needle+"b", false, manyPlaces(len(s)))
		hold(t, r, s, "b"+needle, true, manyPlaces(len(s)))
	}
	for _, needle := range []string{strings.Repeat("a", 50) + "b", strings.Repeat("aab", 20) + "aaab", "b" + strings.Repeat("a", 77)} {
		s := strings.Repeat(strings.Repeat("a", 77)+"b", 100) + strings.Repeat("aab", 100) + needle
		hold(t, made(t, s), s, needle, false, manyPlaces(len(s)))
	}
}

// A needle of which nearly all stands at each place: it is not begun with again at each.
func TestP1NearlyEverywhere(t *testing.T) {
	t.Parallel()
	s := strings.Repeat("a", 1<<21)
	r := made(t, s)
	for _, needle := range []string{strings.Repeat("a", 1<<20) + "b", "b" + strings.Repeat("a", 1<<20), strings.Repeat("a", 1<<20-1) + "B" + strings.Repeat("a", 1<<19)} {
		if hits, err := find.All(r, []byte(needle), true); len(hits) != 0 || err != api.OK {
			t.Errorf("All: %s, %d", told(hits), err)
		}
		if h, ok, err := find.Prev(r, []byte(needle), len(s), false); ok || err != api.OK {
			t.Errorf("Prev: %v, %v, %d", h, ok, err)
		}
	}
	half := []byte(s[:1<<20])
	if hits, err := find.All(r, half, false); !slices.Equal(hits, []api.Hit{{Lo: 0, Hi: 1 << 20}, {Lo: 1 << 20, Hi: 1 << 21}}) || err != api.OK {
		t.Errorf("All: %s, %d", told(hits), err)
	}
	if h, ok, err := find.Next(r, half, 12345, false); h != (api.Hit{Lo: 12345, Hi: 12345 + 1<<20}) || !ok || err != api.OK {
		t.Errorf("Next: %v, %v, %d", h, ok, err)
	}
	if h, ok, err := find.Prev(r, half, 1<<20+54321, false); h != (api.Hit{Lo: 54321, Hi: 54321 + 1<<20}) || !ok || err != api.OK {
		t.Errorf("Prev: %v, %v, %d", h, ok, err)
	}
}
