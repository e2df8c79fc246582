package find_test

import (
	"bytes"
	"slices"
	"strings"
	"sync"
	"testing"

	"galley/api"
	"galley/find"
	"galley/rope"
)

// spare is bytes with room behind them, filled with what must stay, and what would change the answer, if it were read.
func spare(s, fill string) []byte {
	return []byte(s + fill)[:len(s)]
}

// full is a list with its spare room.
func full[T any](list []T) []T { return list[:cap(list)] }

func wipe[T any](list []T, fill T) {
	for i := range full(list) {
		full(list)[i] = fill
	}
}

// asked are needles that are looked for in the example and in a text of several leaves, and texts that are put in their place.
var asked = []struct{ needle, text string }{
	{"a", ""}, {"a", "a"}, {"a", "\u20ac"}, {"aa", "b"}, {"X", "xX"}, {"\x82", "\x82\xac"}, {"\xe2\x82", "y"}, {"q", "z"}, {"\u20ac", "\u20ac\u20ac"}, {example, "b"}, {example + "a", "b"},
}

func ropesAsked(t *testing.T) []*rope.Rope {
	return []*rope.Rope{made(t, example), made(t, strings.Repeat(example, 1000)), made(t, ""), made(t, "aaaa")}
}

// What is handed in stays as it is, spare room too, isn't read beyond its end, and isn't kept; what is answered is new memory each time, spare room too.
func TestP20_5AllAndReplace(t *testing.T) {
	for i, r := range ropesAsked(t) {
		was, _ := r.Bytes(0, r.Len())
		for _, c := range asked {
			for _, fold := range []bool{false, true} {
				wantHits, _ := find.All(r, []byte(c.needle), fold)
				wantDelta, _ := find.Replace(r, []byte(c.needle), []byte(c.text), fold)
				wantHits, wantDelta = slices.Clone(wantHits), slices.Clone(wantDelta)
				needle, text := spare(c.needle, "a\xac\xe2"), spare(c.text, "za\x82")
				wasNeedle, wasText := slices.Clone(full(needle)), slices.Clone(full(text))
				hits, _ := find.All(r, needle, fold)
				hitsToo, _ := find.All(r, needle, fold)
				d, _ := find.Replace(r, needle, text, fold)
				dToo, _ := find.Replace(r, needle, text, fold)
				n, _ := find.Count(r, needle, fold)
				find.Next(r, needle, 0, fold)
				find.Prev(r, needle, r.Len(), fold)
				if !bytes.Equal(full(needle), wasNeedle) || !bytes.Equal(full(text), wasText) {
					t.Fatalf("rope %d, %+q: what was handed in became %x, %x", i, c, full(needle), full(text))
				}
				wipe(hits, api.Hit{Lo: 9, Hi: 9})
				wipe(d, api.Op{Kind: 9, Text: "wiped"})
				wipe(needle, 'w')
				wipe(text, 'w')
				if !slices.Equal(hitsToo, wantHits) || !slices.Equal(dToo, wantDelta) || n != len(wantHits) {
					t.Fatalf("rope %d, %+q: it became %s, %s, %d, want %s, %s", i, c, told(hitsToo), told(dToo), n, told(wantHits), told(wantDelta))
				}
				hitsToo, _ = find.All(r, []byte(c.needle), fold)
				dToo, _ = find.Replace(r, []byte(c.needle), []byte(c.text), fold)
				if !slices.Equal(hitsToo, wantHits) || !slices.Equal(dToo, wantDelta) {
					t.Fatalf("rope %d, %+q: then %s, %s", i, c, told(hitsToo), told(dToo))
				}
			}
		}
		if is, _ := r.Bytes(0, r.Len()); !bytes.Equal(is, was) {
			t.Fatalf("rope %d became %x", i, is)
		}
	}
}

// One list handed in as needle and as text, and two that share memory.
func TestP20_5ListsThatShare(t *testing.T) {
	whole := []byte("aXa\u20acx")
	was := slices.Clone(whole)
	r := made(t, example)
	for lo := range len(whole) {
		for hi := lo + 1; hi <= len(whole); hi++ {
			for _, text := range [][]byte{whole[lo:hi], whole, whole[:lo], whole[hi:]} {
				got, err := find.Replace(r, whole[lo:hi], text, true)
				want, _ := find.Replace(r, bytes.Clone(whole[lo:hi]), bytes.Clone(text), true)
				if !slices.Equal(got, want) || err != api.OK || !bytes.Equal(whole, was) {
					t.Fatalf("%x, %x: %s, %d, want %s", whole[lo:hi], text, told(got), err, told(want))
				}
			}
		}
	}
}

// A text that is nil is one of no byte; so is a rope that was made of nothing.
func TestR5TextOfNoByte(t *testing.T) {
	r := made(t, example)
	for _, text := range [][]byte{nil, {}, []byte("abc")[:0]} {
		d, err := find.Replace(r, []byte("X"), text, false)
		if want := (api.Delta{keep(1), drop(1), keep(10)}); !slices.Equal(d, want) || err != api.OK {
			t.Errorf("Replace: %s, %d, want %s", told(d), err, told(want))
		}
	}
	none, _ := rope.New(nil)
	if hits, err := find.All(none, []byte("a"), false); len(hits) != 0 || err != api.OK {
		t.Errorf("All: %s, %d", told(hits), err)
	}
}

// What is answered depends on what is handed in alone: again, in another order, and several at one time.
func TestR9(t *testing.T) {
	for _, r := range ropesAsked(t) {
		var hits [][]api.Hit
		var deltas []api.Delta
		for _, c := range asked {
			h, _ := find.All(r, []byte(c.needle), true)
			d, _ := find.Replace(r, []byte(c.needle), []byte(c.text), true)
			hits, deltas = append(hits, h), append(deltas, d)
		}
		var all sync.WaitGroup
		for range 8 {
			all.Go(func() {
				for i, c := range slices.Backward(asked) {
					if h, err := find.All(r, []byte(c.needle), true); !slices.Equal(h, hits[i]) || err != api.OK {
						t.Errorf("All(%+q): %s, %d, want %s", c.needle, told(h), err, told(hits[i]))
					}
					if d, err := find.Replace(r, []byte(c.needle), []byte(c.text), true); !slices.Equal(d, deltas[i]) || err != api.OK {
						t.Errorf("Replace(%+q): %s, %d, want %s", c.needle, told(d), err, told(deltas[i]))
					}
				}
			})
		}
		all.Wait()
	}
}
