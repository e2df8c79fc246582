package words_test

import (
	"math/rand"
	"slices"
	"testing"

	"galley/api"
	"galley/words"
)

// texts are some by chance.
func texts(seed int64, n int) []string {
	r := rand.New(rand.NewSource(seed))
	all := []string{"", "a", " ", "\u00e9", "\xff", "\r\n", example}
	for range n {
		all = append(all, byChance(r, r.Intn(50), pieces))
	}
	return all
}

// The runs are all bytes, one behind the other, and neighbours are of unlike kinds; those of words are what All tells.
func TestP22_7Runs(t *testing.T) {
	for _, s := range texts(1, 500) {
		b := []byte(s)
		var found []api.Hit
		for at, last := 0, api.WordKind(0); at < len(b); {
			hit, kind, e := words.Around(b, at)
			if e != api.OK || hit.Lo != at || hit.Hi <= at || kind == last || kind < api.BlankKind || kind > api.BadKind {
				t.Fatalf("%q: the run at %d is %v %d, behind one of %d", s, at, hit, kind, last)
			}
			for place := hit.Lo; place <= hit.Hi; place++ {
				again, k, _ := words.Around(b, place)
				if (place < hit.Hi || place == len(b)) && (again != hit || k != kind) {
					t.Fatalf("%q: at %d %v %d, at %d %v %d", s, at, hit, kind, place, again, k)
				}
			}
			if kind == api.WordRunes {
				found = append(found, hit)
			}
			at, last = hit.Hi, kind
		}
		if !slices.Equal(found, words.All(b)) {
			t.Fatalf("%q: %v, All says %v", s, found, words.All(b))
		}
	}
}

// Next goes by the beginnings of all words, but for one at 0, and ends at the length; Prev goes back by the same.
func TestP22_7ThereAndBack(t *testing.T) {
	for _, s := range texts(2, 500) {
		b := []byte(s)
		var begins []int
		for _, w := range words.All(b) {
			if w.Lo > 0 {
				begins = append(begins, w.Lo)
			}
		}
		var there, back []int
		for at := 0; at < len(b); {
			next, e := words.Next(b, at)
			if e != api.OK || next <= at {
				t.Fatalf("%q: Next of %d is %d %d", s, at, next, e)
			}
			if at = next; at < len(b) {
				there = append(there, at)
			}
		}
		for at := len(b); at > 0; {
			prev, e := words.Prev(b, at)
			if e != api.OK || prev >= at {
				t.Fatalf("%q: Prev of %d is %d %d", s, at, prev, e)
			}
			if at = prev; at > 0 {
				back = append(back, at)
			}
		}
		slices.Reverse(back)
		if !slices.Equal(there, begins) || !slices.Equal(back, begins) {
			t.Fatalf("%q: there %v, back %v, want %v", s, there, back, begins)
		}
	}
}

// No line is too wide between two breaks, and it would be without any one of them.
func TestP22_7Breaks(t *testing.T) {
	for seed, s := range texts(3, 500) {
		w := 1 + seed%9
		breaks, e := words.Wrap([]byte(s), w)
		if e != api.OK || !slices.IsSorted(breaks) || len(slices.Compact(slices.Clone(breaks))) != len(breaks) {
			t.Fatalf("%q, %d: %v %d", s, w, breaks, e)
		}
		if wide := widest(s, breaks); wide > w {
			t.Fatalf("%q, %d: %v leaves a line of %d", s, w, breaks, wide)
		}
		for i := range breaks {
			fewer := slices.Delete(slices.Clone(breaks), i, i+1)
			if wide := widest(s, fewer); wide <= w {
				t.Fatalf("%q, %d: %v, without %d no line has more than %d", s, w, breaks, breaks[i], wide)
			}
		}
	}
}

// widest: the most steps of content between two places at which a line begins, ends or is broken; each break must be an edge.
func widest(s string, breaks []int) int {
	most, n := 0, 0
	for _, p := range steps(s) {
		if slices.Contains(breaks, p.lo) || p.kind == api.EndKind {
			n = 0
		}
		if p.kind != api.EndKind {
			n++
		}
		most = max(most, n)
		for _, at := range breaks {
			if p.lo < at && at < p.hi {
				return len(s) + 1
			}
		}
	}
	return most
}
