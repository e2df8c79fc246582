package find_test

import (
	"fmt"
	"slices"
	"strings"
	"testing"
	"unicode/utf8"

	"galley/api"
	"galley/delta"
	"galley/find"
	"galley/rope"
)

const (
	uppers = "ABCDEFGHIJKLMNOPQRSTUVWXYZ"
	lowers = "abcdefghijklmnopqrstuvwxyz"
)

// alike is the chapter's word of two bytes.
func alike(x, y byte, fold bool) bool {
	if x == y {
		return true
	}
	up, low := strings.IndexByte(uppers, x), strings.IndexByte(lowers, y)
	if up < 0 {
		up, low = strings.IndexByte(uppers, y), strings.IndexByte(lowers, x)
	}
	return fold && up >= 0 && up == low
}

// edges tells of each place of a text whether it is an edge.
func edges(s string) []bool {
	at := make([]bool, len(s)+1)
	for p := 0; p < len(s); {
		at[p] = true
		// Of bytes that are no encoding it answers the width 1.
		_, n := utf8.DecodeRuneInString(s[p:])
		p += n
	}
	at[len(s)] = true
	return at
}

// standing is the places at which a needle stands, rising.
func standing(s, needle string, fold bool) []int {
	at := edges(s)
	var places []int
	for lo := 0; lo+len(needle) <= len(s); lo++ {
		if !at[lo] || !at[lo+len(needle)] {
			continue
		}
		same := true
		for i := 0; i < len(needle) && same; i++ {
			same = alike(s[lo+i], needle[i], fold)
		}
		if same {
			places = append(places, lo)
		}
	}
	return places
}

// hitsOf is those of the places that go over no other one, from the first on.
func hitsOf(places []int, n int) []api.Hit {
	var hits []api.Hit
	free := 0
	for _, lo := range places {
		if lo >= free {
			free = lo + n
			hits = append(hits, api.Hit{Lo: lo, Hi: free})
		}
	}
	return hits
}

// firstOf is the one at or behind from; false: there is none.
func firstOf(places []int, n, from int) (api.Hit, bool) {
	for _, lo := range places {
		if lo >= from {
			return api.Hit{Lo: lo, Hi: lo + n}, true
		}
	}
	return api.Hit{}, false
}

// lastOf is the one that ends at or ahead of from.
func lastOf(places []int, n, from int) (api.Hit, bool) {
	for _, lo := range slices.Backward(places) {
		if lo+n <= from {
			return api.Hit{Lo: lo, Hi: lo + n}, true
		}
	}
	return api.Hit{}, false
}

// replaced is the text with another one in the place of each hit.
func replaced(s string, hits []api.Hit, text string) string {
	var b strings.Builder
	at := 0
	for _, h := range hits {
		b.WriteString(s[at:h.Lo] + text)
		at = h.Hi
	}
	return b.String() + s[at:]
}

// changesOf is what Replace has to hand to delta.Of.
func changesOf(hits []api.Hit, text string) []api.Change {
	var all []api.Change
	for _, h := range hits {
		all = append(all, api.Change{Lo: h.Lo, Hi: h.Hi, Text: text})
	}
	return all
}

// short is a text that may be long.
func short(s string) string {
	if len(s) > 60 {
		return fmt.Sprintf("%+q.. of %d", s[:60], len(s))
	}
	return fmt.Sprintf("%+q", s)
}

// told is a list in a line that isn't too long.
func told[T any](list []T) string {
	if len(list) > 20 {
		return fmt.Sprintf("%+v.. of %d", list[:20], len(list))
	}
	return fmt.Sprintf("%+v", list)
}

// everyPlace is -1 to one behind the end of a text of n bytes.
func everyPlace(n int) []int {
	var all []int
	for from := -1; from <= n+1; from++ {
		all = append(all, from)
	}
	return all
}

// holdNear holds Next and Prev from a place against the places at which the needle stands.
func holdNear(t *testing.T, r *rope.Rope, s, needle string, fold bool, places []int, from int) {
	t.Helper()
	next, okNext := firstOf(places, len(needle), from)
	prev, okPrev := lastOf(places, len(needle), from)
	want := api.OK
	if from < 0 || from > len(s) {
		next, okNext, prev, okPrev, want = api.Hit{}, false, api.Hit{}, false, api.ErrRange
	}
	if h, ok, err := find.Next(r, []byte(needle), from, fold); h != next || ok != okNext || err != want {
		t.Fatalf("Next(%s, %s, %d, %v): %v, %v, %d, want %v, %v, %d", short(s), short(needle), from, fold, h, ok, err, next, okNext, want)
	}
	if h, ok, err := find.Prev(r, []byte(needle), from, fold); h != prev || ok != okPrev || err != want {
		t.Fatalf("Prev(%s, %s, %d, %v): %v, %v, %d, want %v, %v, %d", short(s), short(needle), from, fold, h, ok, err, prev, okPrev, want)
	}
}

// hold holds All and Count, and Next and Prev from some places, against the chapter's words.
func hold(t *testing.T, r *rope.Rope, s, needle string, fold bool, froms []int) []api.Hit {
	t.Helper()
	places := standing(s, needle, fold)
	hits := hitsOf(places, len(needle))
	if got, err := find.All(r, []byte(needle), fold); !slices.Equal(got, hits) || err != api.OK {
		t.Fatalf("All(%s, %s, %v): %s, %d, want %s", short(s), short(needle), fold, told(got), err, told(hits))
	}
	if n, err := find.Count(r, []byte(needle), fold); n != len(hits) || err != api.OK {
		t.Fatalf("Count(%s, %s, %v): %d, %d, want %d", short(s), short(needle), fold, n, err, len(hits))
	}
	for _, from := range froms {
		holdNear(t, r, s, needle, fold, places, from)
	}
	return hits
}

// holdReplace holds Replace against what the hits say.
func holdReplace(t *testing.T, r *rope.Rope, s, needle, text string, fold bool) {
	t.Helper()
	hits := hitsOf(standing(s, needle, fold), len(needle))
	d, err := find.Replace(r, []byte(needle), []byte(text), fold)
	if err != api.OK || !delta.Valid(d) {
		t.Fatalf("Replace(%s, %s, %s, %v): %s, %d", short(s), short(needle), short(text), fold, told(d), err)
	}
	if want, _ := delta.Of(len(s), changesOf(hits, text)); !slices.Equal(d, want) {
		t.Fatalf("Replace(%s, %s, %s, %v): %s, want %s", short(s), short(needle), short(text), fold, told(d), told(want))
	}
	if made, err := delta.Apply([]byte(s), d); string(made) != replaced(s, hits, text) || err != api.OK {
		t.Fatalf("Replace(%s, %s, %s, %v) makes %s, %d", short(s), short(needle), short(text), fold, short(string(made)), err)
	}
}

// rows calls f with every list of n out of some, in every order.
func rows[T any](n int, some []T, f func(list []T)) {
	list := make([]T, n)
	var fill func(i int)
	fill = func(i int) {
		if i == n {
			f(list)
			return
		}
		for _, x := range some {
			list[i] = x
			fill(i + 1)
		}
	}
	fill(0)
}

// texts are all texts of at least and at most so many out of some.
func texts(least, most int, some ...string) []string {
	var all []string
	for n := least; n <= most; n++ {
		rows(n, some, func(list []string) { all = append(all, strings.Join(list, "")) })
	}
	return all
}
