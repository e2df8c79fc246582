package doc_test

import (
	"fmt"
	"strings"
	"testing"

	"galley/api"
)

// someNames are names that may be.
var someNames = []string{"a", "\x00", "\xff", "\u20ac", "\xe2\x82", "name", strings.Repeat("n", 64), strings.Repeat("\xff", 64)}

// noNames are names that may not be.
var noNames = []string{"", strings.Repeat("n", 65), strings.Repeat("\u20ac", 22), strings.Repeat("n", 1<<16)}

// Marks by each ruler, at every place and outside, in each mode; with places that are edges, or not.
func TestP18_6EveryPlace(t *testing.T) {
	t.Parallel()
	for _, text := range someTexts {
		for _, u := range rulers {
			x := made(t, text, 2)
			for i, p := range around(sizeBy(t, text, u)) {
				for _, mode := range modes {
					x.mark(t, fmt.Sprint("m", i, mode), u, p, gravities[i%2], mode)
					x.hold(t)
				}
			}
			for _, m := range x.want.marks {
				for _, by := range rulers {
					x.marked(t, m.Name, by)
				}
			}
		}
	}
}

// Ranges likewise, between every two places.
func TestP18_7EveryPlace(t *testing.T) {
	t.Parallel()
	for _, text := range someTexts {
		for _, u := range rulers {
			for _, mode := range modes {
				x := made(t, text, 2)
				for i, lo := range around(sizeBy(t, text, u)) {
					for j, hi := range around(sizeBy(t, text, u)) {
						x.ranged(t, fmt.Sprint("r", i, j), u, lo, hi, gravities[i%2], gravities[j%2], mode)
					}
				}
				x.hold(t)
			}
		}
	}
}

func TestP18_6And7Examples(t *testing.T) {
	x := made(t, "a\U0001F600b", 2)
	check := func(got, want api.Errno) {
		t.Helper()
		if got != want {
			t.Errorf("%v: %d, want %d", x.calls, got, want)
		}
	}
	check(x.mark(t, "down", api.Units, 2, api.Left, api.Down), api.OK)
	check(x.mark(t, "up", api.Units, 2, api.Left, api.Up), api.OK)
	check(x.mark(t, "none", api.Units, 2, api.Left, api.Exact), api.ErrInside)
	check(x.mark(t, "bytes down", api.Bytes, 3, api.Left, api.Down), api.OK)
	check(x.mark(t, "bytes up", api.Bytes, 3, api.Left, api.Up), api.OK)
	check(x.mark(t, "none", api.Bytes, 3, api.Left, api.Exact), api.ErrInside)
	for name, want := range map[string]int{"down": 1, "up": 5, "bytes down": 1, "bytes up": 5} {
		if got, err := x.d.Marked(name, api.Bytes); got != want || err != api.OK {
			t.Errorf("Marked(%s): %d, %d, want %d", name, got, err, want)
		}
	}
	check(x.ranged(t, "face", api.Runes, 1, 2, api.Right, api.Left, api.Exact), api.OK)
	check(x.ranged(t, "empty", api.Units, 1, 2, api.Right, api.Left, api.Down), api.ErrRange)
	check(x.ranged(t, "whole", api.Units, 1, 2, api.Right, api.Left, api.Up), api.OK)
	want := []api.Range{{Name: "face", Lo: 1, Hi: 5, Start: api.Right, End: api.Left}, {Name: "whole", Lo: 1, Hi: 5, Start: api.Right, End: api.Left}}
	if got := x.d.Ranges(); fmt.Sprint(got) != fmt.Sprint(want) {
		t.Errorf("Ranges: %v, want %v", got, want)
	}
	x.hold(t)
}

// F3: a mark may come to stand inside a step; what a ruler tells of it is the floor then, but by bytes too.
func TestF3MarkInside(t *testing.T) {
	x := made(t, "\xe2\xac", 3)
	x.mark(t, "m", api.Bytes, 1, api.Right, api.Exact)
	x.edit(t, api.Exact, by(api.Bytes, 1, 1, "\x82"))
	if list := x.d.Marks(); len(list) != 1 || list[0].Place != 2 || x.d.Text().Weld().Sizes.Runes != 1 {
		t.Fatalf("Marks: %v", list)
	}
	for _, u := range rulers {
		if got, err := x.d.Marked("m", u); got != 0 || err != api.OK {
			t.Errorf("Marked by %d: %d, %d", u, got, err)
		}
	}
	x.hold(t)
	x.unwind(t)
}

// What seek.To says comes first; then the name, then the gravity, then how many there are.
func TestP18_6MarkErrors(t *testing.T) {
	for _, text := range []string{"", "a\U0001F600b"} {
		x := furnished(t, text, 3)
		want := func(want, got api.Errno) {
			t.Helper()
			if got != want {
				t.Errorf("%v: %d, want %d", x.calls, got, want)
			}
			x.hold(t)
		}
		for _, name := range append(noNames, "a") {
			for _, g := range append(noGravities, gravities...) {
				for _, u := range noRulers {
					want(api.ErrRuler, x.mark(t, name, u, 0, g, api.Down))
					want(api.ErrRuler, x.mark(t, name, u, -1, g, 0))
				}
				for _, m := range noModes {
					want(api.ErrRuler, x.mark(t, name, api.Bytes, 99, g, m))
				}
				for _, u := range rulers {
					want(api.ErrRange, x.mark(t, name, u, -1, g, api.Down))
					want(api.ErrRange, x.mark(t, name, u, len(text)+1, g, api.Exact))
				}
				if text != "" {
					want(api.ErrInside, x.mark(t, name, api.Units, 2, g, api.Exact))
					want(api.ErrInside, x.mark(t, name, api.Bytes, 4, g, api.Exact))
				}
				for _, none := range noNames {
					want(api.ErrName, x.mark(t, none, api.Runes, 0, g, api.Up))
				}
			}
		}
		for _, g := range noGravities {
			want(api.ErrRange, x.mark(t, "a", api.Runes, 0, g, api.Up))
		}
		for _, name := range someNames {
			want(api.OK, x.mark(t, name, api.Runes, 0, api.Left, api.Up))
			want(api.OK, x.mark(t, name, api.Runes, 0, api.Right, api.Up))
		}
	}
}

// What seek.To says of lo, then of hi, comes first; then the name; then the order of the places, and the gravities.
func TestP18_7RangeErrors(t *testing.T) {
	x := furnished(t, "a\U0001F600b", 3)
	want := func(want, got api.Errno) {
		t.Helper()
		if got != want {
			t.Errorf("%v: %d, want %d", x.calls, got, want)
		}
		x.hold(t)
	}
	for _, name := range append(noNames, "a") {
		for _, g := range append(noGravities, gravities...) {
			for _, u := range noRulers {
				want(api.ErrRuler, x.ranged(t, name, u, -1, 99, g, g, api.Exact))
			}
			for _, m := range noModes {
				want(api.ErrRuler, x.ranged(t, name, api.Units, 2, 99, g, g, m))
			}
			want(api.ErrRange, x.ranged(t, name, api.Units, -1, 2, g, g, api.Exact))
			want(api.ErrRange, x.ranged(t, name, api.Units, 5, 2, g, g, api.Exact))
			want(api.ErrInside, x.ranged(t, name, api.Units, 2, 5, g, g, api.Exact))
			want(api.ErrInside, x.ranged(t, name, api.Units, 4, 2, g, g, api.Exact))
			want(api.ErrRange, x.ranged(t, name, api.Bytes, 0, 7, g, g, api.Down))
			for _, none := range noNames {
				want(api.ErrName, x.ranged(t, none, api.Runes, 2, 1, g, g, api.Down))
			}
		}
	}
	for _, g := range noGravities {
		want(api.ErrRange, x.ranged(t, "a", api.Runes, 1, 2, g, api.Left, api.Down))
		want(api.ErrRange, x.ranged(t, "a", api.Runes, 1, 2, api.Left, g, api.Down))
	}
	want(api.ErrRange, x.ranged(t, "a", api.Runes, 2, 2, api.Left, api.Left, api.Down))
	want(api.ErrRange, x.ranged(t, "a", api.Runes, 2, 1, api.Left, api.Left, api.Down))
	for _, name := range someNames {
		want(api.OK, x.ranged(t, name, api.Runes, 0, 1, api.Left, api.Right, api.Down))
		want(api.OK, x.ranged(t, name, api.Runes, 1, 2, api.Right, api.Left, api.Down))
	}
}

// There may be MaxMarks marks, and as many ranges; those that are there can be moved still.
func TestP18_6And7Many(t *testing.T) {
	x := made(t, "abcde", 2)
	for i := range api.MaxMarks {
		x.mark(t, fmt.Sprint("m", i), api.Bytes, i%6, gravities[i%2], api.Exact)
		x.ranged(t, fmt.Sprint("m", i), api.Bytes, i%5, 5, gravities[i%2], api.Left, api.Exact)
	}
	x.hold(t)
	for range 2 {
		if err := x.mark(t, "more", api.Bytes, 0, api.Left, api.Exact); err != api.ErrMany {
			t.Errorf("Mark: %d", err)
		}
		if err := x.ranged(t, "more", api.Bytes, 0, 1, api.Left, api.Left, api.Exact); err != api.ErrMany {
			t.Errorf("Range: %d", err)
		}
		x.mark(t, "m7", api.Bytes, 5, api.Left, api.Exact)
		x.ranged(t, "m7", api.Bytes, 1, 2, api.Left, api.Left, api.Exact)
		x.hold(t)
		x.edit(t, api.Exact, by(api.Bytes, 5, 5, "x"))
	}
	x.unmark(t, "m9")
	x.unrange(t, "m8")
	if x.mark(t, "more", api.Bytes, 0, api.Left, api.Exact) != api.OK || x.ranged(t, "more", api.Bytes, 0, 1, api.Left, api.Left, api.Exact) != api.OK {
		t.Error("there is no room for one more")
	}
	x.unwind(t)
}

// Unmark, Unrange and Marked of names that are there, and that are not; a mark is no range. A ruler that is none is told ahead of a name that isn't there.
func TestP18_6And7Names(t *testing.T) {
	x := made(t, "a\u20acb", 2)
	x.mark(t, "mark", api.Runes, 2, api.Left, api.Exact)
	x.ranged(t, "range", api.Runes, 1, 3, api.Left, api.Left, api.Exact)
	want := func(want, got api.Errno) {
		t.Helper()
		if got != want {
			t.Errorf("%v: %d, want %d", x.calls, got, want)
		}
		x.hold(t)
	}
	for _, name := range append(append(someNames, noNames...), "range", "Mark", "mar", "marks") {
		want(api.ErrMark, x.unmark(t, name))
		for _, u := range rulers {
			want(api.ErrMark, x.marked(t, name, u))
		}
		for _, u := range noRulers {
			want(api.ErrRuler, x.marked(t, name, u))
		}
	}
	for _, name := range append(append(someNames, noNames...), "mark", "Range", "rang", "ranges") {
		want(api.ErrMark, x.unrange(t, name))
	}
	for _, u := range noRulers {
		want(api.ErrRuler, x.marked(t, "mark", u))
	}
	want(api.OK, x.unmark(t, "mark"))
	want(api.ErrMark, x.unmark(t, "mark"))
	want(api.ErrMark, x.marked(t, "mark", api.Bytes))
	want(api.OK, x.unrange(t, "range"))
	want(api.ErrMark, x.unrange(t, "range"))
}

// Marks and ranges are no steps: neither text nor version nor what was done is changed by them, in a group and outside.
func TestP18_8(t *testing.T) {
	for _, room := range []int{0, 1, 3} {
		x := made(t, "a\U0001F600b", room)
		x.write(t, "x")
		x.write(t, "y")
		x.undo(t)
		for range 2 {
			back, again := x.d.Steps()
			version, rope, text := x.d.Version(), x.d.Text(), textOf(t, x.d)
			still := func() {
				t.Helper()
				if b, a := x.d.Steps(); b != back || a != again || x.d.Version() != version || x.d.Text() != rope || textOf(t, x.d) != text {
					t.Errorf("%v: steps %d, %d, version %d, %q", x.calls, b, a, x.d.Version(), textOf(t, x.d))
				}
				x.hold(t)
			}
			for _, u := range rulers {
				x.mark(t, "m", u, 1, api.Left, api.Down)
				still()
				x.ranged(t, "r", u, 0, 1, api.Left, api.Left, api.Up)
				still()
				x.marked(t, "m", u)
				still()
			}
			x.mark(t, "m", api.Bytes, 99, api.Left, api.Down)
			x.unmark(t, "none")
			still()
			x.unmark(t, "m")
			still()
			x.unrange(t, "none")
			x.unrange(t, "r")
			still()
			x.begin(t)
		}
		x.unwind(t)
	}
}
