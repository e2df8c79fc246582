package find_test

import (
	"testing"

	"galley/api"
	"galley/find"
)

// Every byte looked for in every byte: with fold just the two cases of a letter of ASCII are alike.
func TestP20_1EveryTwoBytes(t *testing.T) {
	for x := range 256 {
		r := made(t, string([]byte{byte(x)}))
		for y := range 256 {
			needle := []byte{byte(y)}
			for _, fold := range []bool{false, true} {
				want := 0
				if alike(byte(x), byte(y), fold) {
					want = 1
				}
				if n, err := find.Count(r, needle, fold); n != want || err != api.OK {
					t.Fatalf("%x in %x, %v: %d, %d, want %d", y, x, fold, n, err, want)
				}
			}
		}
	}
}

func TestP20_1Fold(t *testing.T) {
	for _, c := range []struct {
		text, needle string
		plain, fold  int
	}{
		{"abc", "ABC", 0, 1},
		{"ABC", "abc", 0, 1},
		{"aBcAbC", "AbC", 1, 2},
		{"zZ", "Z", 1, 2},
		{"zZ", "z", 1, 2},
		{"aA", "aa", 0, 1},
		{"aAaA", "Aa", 1, 2},
		{"abABab", "abab", 0, 1},
		// Bytes that stand beside the letters, and differ as the cases do.
		{"@", "`", 0, 0},
		{"`", "@", 0, 0},
		{"[", "{", 0, 0},
		{"{", "[", 0, 0},
		{"a@", "A`", 0, 0},
		{"a@", "A@", 0, 1},
		{"0", "\x10", 0, 0},
		{"\r", "-", 0, 0},
		// Letters that are not of ASCII.
		{"\u00e9", "\u00c9", 0, 0},
		{"\u00c9", "\u00e9", 0, 0},
		{"\u00df", "ss", 0, 0},
		{"\u212a", "k", 0, 0},
		{"k", "\u212a", 0, 0},
		{"\u017f", "s", 0, 0},
		{"S", "\u017f", 0, 0},
		{"\uff21", "\uff41", 0, 0},
		{"\u0130", "i", 0, 0},
		{"\u0430", "\u0410", 0, 0},
		{"\u00e9A", "\u00e9a", 0, 1},
		// Bytes of 80 and above that differ as the cases do.
		{"\xc1", "\xe1", 0, 0},
		{"\xe1", "\xc1", 0, 0},
		{"\xe2\x82\xac", "\xc2\x82\xac", 0, 0},
		{"\xe2\x82\xac", "\xe2\xa2\xac", 0, 0},
		{"\xda", "\xfa", 0, 0},
		{"\xe2\x82a", "\xe2\x82A", 0, 1},
		{"\xe2\x82\xaca", "\x82\xacA", 0, 0},
		{"\x41\xc3\xa9", "a\xc3", 0, 0},
		{"\x41\xc3", "a\xc3", 0, 1},
	} {
		r := made(t, c.text)
		for fold, want := range map[bool]int{false: c.plain, true: c.fold} {
			if n, err := find.Count(r, []byte(c.needle), fold); n != want || err != api.OK {
				t.Errorf("Count(%+q, %+q, %v): %d, %d, want %d", c.text, c.needle, fold, n, err, want)
			}
			hold(t, r, c.text, c.needle, fold, everyPlace(len(c.text)))
			holdReplace(t, r, c.text, c.needle, "\u20ac", fold)
		}
	}
}

// Needles that go over themselves only when folded, in texts of both cases.
func TestP20_1FoldOverItself(t *testing.T) {
	t.Parallel()
	needles := texts(1, 4, "a", "A", "b")
	for _, s := range texts(6, 6, "a", "A", "b") {
		r := made(t, s)
		for _, needle := range needles {
			hold(t, r, s, needle, true, []int{0, 1, 2, 5, 6})
		}
	}
}
