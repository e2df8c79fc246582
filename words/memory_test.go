package words_test

import (
	"bytes"
	"fmt"
	"slices"
	"strings"
	"sync"
	"testing"

	"galley/api"
	"galley/words"
)

// spare is bytes with room behind them, filled with what must stay, and what would change the answer, if it were read.
func spare(s, fill string) []byte {
	return []byte(s + fill)[:len(s)]
}

// full is a list with its spare room.
func full[T any](list []T) []T { return list[:cap(list)] }

func wipe[T any](list []T, fill T) {
	for i := range full(list) {
		full(list)[i] = fill
	}
}

// told is all that is answered of a text.
func told(b []byte) string {
	var s strings.Builder
	fmt.Fprint(&s, words.All(b))
	for place := range len(b) + 1 {
		hit, kind, _ := words.Around(b, place)
		next, _ := words.Next(b, place)
		prev, _ := words.Prev(b, place)
		col, _ := words.Column(b, place, 4)
		fmt.Fprint(&s, hit, kind, next, prev, col)
	}
	for w := range 6 {
		breaks, e := words.Wrap(b, w)
		fmt.Fprint(&s, breaks, e)
	}
	return s.String()
}

// What is handed in stays, spare room too, and isn't read beyond its end.
func TestR6HandedIn(t *testing.T) {
	for _, s := range texts(5, 50) {
		want := told([]byte(s))
		for _, fill := range []string{"\x82\xac", "abc", "\nab", " b", "\xa9\xa9"} {
			b := spare(s, fill)
			was := slices.Clone(full(b))
			if got := told(b); got != want {
				t.Errorf("%q with %q in the spare room: %s, want %s", s, fill, got, want)
			}
			if !bytes.Equal(full(b), was) {
				t.Errorf("%q became %q", was, full(b))
			}
		}
	}
}

// Lists that are answered are new memory, spare room too.
func TestR6Answers(t *testing.T) {
	for _, s := range texts(6, 50) {
		b := []byte(s)
		one, two := words.All(b), words.All(b)
		left, _ := words.Wrap(b, 2)
		right, _ := words.Wrap(b, 2)
		wipe(one, api.Hit{Lo: -1, Hi: -1})
		wipe(left, -1)
		wipe(b, 'x')
		if !slices.Equal(two, wordsOf(s)) || !slices.Equal(right, wrap(s, 2)) {
			t.Errorf("%q: then %v %v", s, two, right)
		}
		b = []byte(s)
		again, _ := words.Wrap(b, 2)
		if !slices.Equal(words.All(b), wordsOf(s)) || !slices.Equal(again, wrap(s, 2)) {
			t.Errorf("%q: again %v %v", s, words.All(b), again)
		}
	}
}

// No bytes are nil or none.
func TestR5(t *testing.T) {
	if told(nil) != told([]byte{}) {
		t.Errorf("%s, %s", told(nil), told([]byte{}))
	}
}

// What is answered depends on what is handed in alone: again, in another order, and several at one time.
func TestR9(t *testing.T) {
	t.Parallel()
	all := texts(7, 40)
	want := make([]string, len(all))
	for i, s := range all {
		want[i] = told([]byte(s))
	}
	for i := len(all) - 1; i >= 0; i-- {
		if got := told([]byte(all[i])); got != want[i] {
			t.Errorf("%q: again %s, want %s", all[i], got, want[i])
		}
	}
	shared := make([][]byte, len(all))
	for i, s := range all {
		shared[i] = []byte(s)
	}
	var wait sync.WaitGroup
	for g := range 8 {
		wait.Go(func() {
			for i := range all {
				k := (i*7 + g) % len(all)
				if got := told(shared[k]); got != want[k] {
					t.Errorf("%q: at one time %s, want %s", all[k], got, want[k])
				}
			}
		})
	}
	wait.Wait()
}

// Long texts: one run, many runs, lines that are broken at their first blank again and again.
func TestP1LongTexts(t *testing.T) {
	t.Parallel()
	const n = 1 << 19
	for _, thing := range []string{"a", " ", "\n", "\r", "\xff", "\xe2", "\x80", "-", "a ", "\t", "\u00e9-", "\u20ac", " " + strings.Repeat("a", api.MaxLine), strings.Repeat(" ", 9) + strings.Repeat("a", 100), "\xf0\x9f\x98"} {
		b := bytes.Repeat([]byte(thing), n/len(thing))
		middle := len(b) / 2
		all := words.All(b)
		for _, place := range []int{0, middle, len(b)} {
			hit, kind, e := words.Around(b, place)
			if e != api.OK || place < hit.Lo || place > hit.Hi || kind == 0 {
				t.Errorf("many of %.9q: %v %d %d", thing, hit, kind, e)
			}
			next, _ := words.Next(b, place)
			prev, _ := words.Prev(b, place)
			if next < place || prev > place {
				t.Errorf("many of %.9q: %d, %d, %d", thing, prev, place, next)
			}
			if _, e := words.Column(b, place, api.MaxLine); e != api.OK {
				t.Errorf("many of %.9q: %d", thing, e)
			}
		}
		for _, w := range []int{1, 2, 99, 101, api.MaxLine} {
			breaks, e := words.Wrap(b, w)
			if e != api.OK || len(breaks) > len(b) || len(all) > len(b) {
				t.Errorf("many of %.9q: %d breaks, %d", thing, len(breaks), e)
			}
		}
	}
	// As far to the right as tabs go.
	tabs := bytes.Repeat([]byte{'\t'}, n)
	if got, e := words.Column(tabs, n, api.MaxLine); got != n*api.MaxLine || e != api.OK {
		t.Errorf("%d tabs: %d %d", n, got, e)
	}
}
