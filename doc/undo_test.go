package doc_test

import (
	"fmt"
	"math/rand"
	"slices"
	"strings"
	"testing"

	"galley/api"
	"galley/delta"
	"galley/doc"
)

// steps holds how many steps there are.
func (x *pair) steps(t testing.TB, back, again int) {
	t.Helper()
	if b, a := x.d.Steps(); b != back || a != again {
		t.Fatalf("%v, Steps: %d, %d, want %d, %d", x.calls, b, a, back, again)
	}
	x.hold(t)
}

// write puts a text to the end.
func (x *pair) write(t testing.TB, text string) {
	t.Helper()
	n := len(x.want.text)
	x.edit(t, api.Exact, by(api.Bytes, n, n, text))
}

// No step can be taken back or done again where there is none; nothing is changed by the error.
func TestP18_4NoSteps(t *testing.T) {
	for _, text := range someTexts {
		for _, room := range []int{0, 1, 3} {
			x := made(t, text, room)
			x.mark(t, "m", api.Bytes, 0, api.Left, api.Exact)
			for range 3 {
				if x.undo(t) != api.ErrPast || x.redo(t) != api.ErrPast {
					t.Fatal("there was a step")
				}
				x.hold(t)
			}
			x.write(t, "x")
			if x.redo(t) != api.ErrPast {
				t.Fatal("what was done can be done again")
			}
			x.steps(t, min(room, 1), 0)
		}
	}
}

// Many steps, to the end and back, more than once; the version rises by one each time.
func TestP18_4And9ManySteps(t *testing.T) {
	for _, n := range []int{1, 2, 5, 40} {
		x := made(t, "a\u20ac\r\n", 40)
		for i := range n {
			x.mark(t, fmt.Sprint("m", i%7), api.Runes, i%4, gravities[i%2], api.Exact)
			x.ranged(t, fmt.Sprint("r", i%5), api.Units, i%3, i%3+1, gravities[i%2], gravities[i/2%2], api.Exact)
			x.edit(t, api.Down, by(rulers[i%3], i%3, i%3+i%2, pieces[2+i%12]))
			x.hold(t)
		}
		for range 3 {
			for i := range n {
				if x.undo(t) != api.OK {
					t.Fatalf("step %d of %d couldn't be taken back", i, n)
				}
				x.steps(t, n-1-i, i+1)
			}
			if x.undo(t) != api.ErrPast || textOf(t, x.d) != "a\u20ac\r\n" {
				t.Fatalf("at the beginning: %q", textOf(t, x.d))
			}
			for i := range n {
				if x.redo(t) != api.OK {
					t.Fatalf("step %d of %d couldn't be done again", i, n)
				}
				x.steps(t, i+1, n-1-i)
			}
			if x.redo(t) != api.ErrPast || x.d.Version() != x.want.version {
				t.Fatalf("at the end: version %d", x.d.Version())
			}
		}
		if want := n + 6*n; x.d.Version() != want {
			t.Errorf("version %d, want %d", x.d.Version(), want)
		}
	}
}

// Marks and ranges are those of directly ahead of a step and directly behind it: what was set, moved or dropped since is lost.
func TestP18_4And9DirectlyAheadAndBehind(t *testing.T) {
	x := made(t, "abcdef", 5)
	x.mark(t, "m", api.Bytes, 2, api.Left, api.Exact)
	x.write(t, "1")
	x.mark(t, "m", api.Bytes, 3, api.Right, api.Exact)
	x.mark(t, "n", api.Bytes, 4, api.Right, api.Exact)
	x.ranged(t, "r", api.Bytes, 1, 4, api.Right, api.Left, api.Exact)
	x.edit(t, api.Exact, by(api.Bytes, 2, 5, "xy"))
	x.unmark(t, "m")
	x.ranged(t, "r", api.Bytes, 0, 1, api.Left, api.Left, api.Exact)
	x.ranged(t, "s", api.Bytes, 0, 2, api.Left, api.Left, api.Exact)
	places := func(want ...any) {
		t.Helper()
		var got []any
		for _, m := range x.d.Marks() {
			got = append(got, m.Name, m.Place)
		}
		for _, r := range x.d.Ranges() {
			got = append(got, r.Name, r.Lo, r.Hi)
		}
		if !slices.Equal(got, want) {
			t.Errorf("%v: %v, want %v", x.calls, got, want)
		}
		x.hold(t)
	}
	places("n", 4, "r", 0, 1, "s", 0, 2)
	for range 2 {
		x.undo(t)
		places("m", 3, "n", 4, "r", 1, 4)
		x.mark(t, "o", api.Bytes, 0, api.Left, api.Exact)
		x.unrange(t, "r")
		x.redo(t)
		places("m", 4, "n", 4, "r", 1, 2)
		x.unmark(t, "n")
		x.mark(t, "p", api.Bytes, 1, api.Left, api.Exact)
		x.undo(t)
		places("m", 3, "n", 4, "r", 1, 4)
		x.unmark(t, "m")
		x.undo(t)
		places("m", 2)
		x.unmark(t, "m")
		x.redo(t)
		places("m", 2)
		x.mark(t, "m", api.Bytes, 6, api.Left, api.Exact)
		x.redo(t)
		places("m", 4, "n", 4, "r", 1, 2)
	}
}

// A range that has gone is there again behind Undo, and marks that were moved together are apart again.
func TestP18_9WhatWasLostComesBack(t *testing.T) {
	x := made(t, "a\U0001F600b\xe2\x82", 3)
	for p := range 9 {
		x.mark(t, fmt.Sprint("m", p), api.Bytes, p, gravities[p%2], api.Down)
		x.ranged(t, fmt.Sprint("r", p), api.Bytes, 0, p, gravities[p%2], gravities[p/2%2], api.Up)
	}
	x.edit(t, api.Exact, by(api.Bytes, 0, 8, ""))
	if len(x.d.Ranges()) != 0 || textOf(t, x.d) != "" {
		t.Errorf("%v, %q", x.d.Ranges(), textOf(t, x.d))
	}
	x.unwind(t)
	x.undo(t)
	if len(x.d.Ranges()) != 8 || len(x.d.Marks()) != 9 {
		t.Errorf("%v, %v", x.d.Ranges(), x.d.Marks())
	}
	x.unwind(t)
}

// An edit, an Apply that doesn't keep all, and nothing else loses what was taken back.
func TestP18_2And3LoseWhatWasTakenBack(t *testing.T) {
	taken := func() *pair {
		x := made(t, "abc", 5)
		x.write(t, "1")
		x.write(t, "2")
		x.write(t, "3")
		x.undo(t)
		x.undo(t)
		x.steps(t, 1, 2)
		return x
	}
	for name, call := range map[string]func(x *pair){
		"Edit":    func(x *pair) { x.write(t, "x") },
		"nothing": func(x *pair) { x.write(t, "") },
		"Apply":   func(x *pair) { x.apply(t, written("=4 +x")) },
	} {
		x := taken()
		call(x)
		if x.redo(t) != api.ErrPast {
			t.Errorf("%s: what was taken back can be done again", name)
		}
		x.steps(t, 2, 0)
		x.unwind(t)
	}
	x := taken()
	x.mark(t, "m", api.Bytes, 1, api.Left, api.Exact)
	x.ranged(t, "r", api.Bytes, 1, 2, api.Left, api.Left, api.Exact)
	x.unmark(t, "m")
	x.unrange(t, "r")
	x.apply(t, written("=4"))
	x.edit(t, api.Exact)
	x.edit(t, api.Exact, by(api.Bytes, 9, 9, ""))
	x.apply(t, written("=9"))
	x.begin(t)
	x.begin(t)
	x.end(t)
	x.end(t)
	x.steps(t, 1, 2)
	if x.redo(t) != api.OK || x.redo(t) != api.OK || textOf(t, x.d) != "abc123" {
		t.Errorf("%q", textOf(t, x.d))
	}
}

// Where there are more steps than there is room for, the eldest is lost; with room for none, all are.
func TestP18_2Room(t *testing.T) {
	for _, room := range []int{0, 1, 2, 3, 7} {
		for n := range 12 {
			x := made(t, "a", room)
			for i := range n {
				x.write(t, fmt.Sprint(i%10))
				x.steps(t, min(room, i+1), 0)
			}
			for i := range min(room, n) {
				x.undo(t)
				x.steps(t, min(room, n)-1-i, i+1)
			}
			if x.undo(t) != api.ErrPast || textOf(t, x.d) != "a0123456789012"[:1+n-min(room, n)] {
				t.Errorf("room for %d, %d steps: %q", room, n, textOf(t, x.d))
			}
			x.unwind(t)
		}
	}
}

// There is room for MaxPast steps, and no more.
func TestP18_2MostRoom(t *testing.T) {
	x := made(t, "a", api.MaxPast)
	for i := range api.MaxPast + 3 {
		x.write(t, string(rune('a'+i%26)))
	}
	x.steps(t, api.MaxPast, 0)
	for range api.MaxPast {
		x.undo(t)
	}
	x.steps(t, 0, api.MaxPast)
	if x.undo(t) != api.ErrPast || textOf(t, x.d) != "aabc" {
		t.Errorf("%q", textOf(t, x.d))
	}
	for range api.MaxPast {
		x.redo(t)
	}
	x.steps(t, api.MaxPast, 0)
}

// While a group is open, Undo, Redo and Begin are refused, whether there are steps or not; without one End is.
func TestP18_4And5Open(t *testing.T) {
	for _, ahead := range []int{0, 1, 2} {
		for _, taken := range []int{0, 1, 2} {
			x := made(t, "abc", 5)
			for range ahead {
				x.write(t, "x")
			}
			for range min(taken, ahead) {
				x.undo(t)
			}
			if x.end(t) != api.ErrOpen || x.begin(t) != api.OK {
				t.Fatal("a group was open")
			}
			for range 2 {
				if x.undo(t) != api.ErrOpen || x.redo(t) != api.ErrOpen || x.begin(t) != api.ErrOpen {
					t.Fatal("no group is open")
				}
				x.hold(t)
				x.write(t, "y")
			}
			if x.end(t) != api.OK || x.end(t) != api.ErrOpen {
				t.Fatal("a group is still open")
			}
			x.unwind(t)
		}
	}
}

// A group in which something was done is one step; each edit counts for the version. One without is none.
func TestP18_5Groups(t *testing.T) {
	for _, room := range []int{0, 1, 2, 5} {
		for ahead := range 4 {
			for n := range 5 {
				x := made(t, "a\u20ac", room)
				for range ahead {
					x.write(t, "x")
				}
				version := x.d.Version()
				x.begin(t)
				for i := range n {
					x.write(t, fmt.Sprint(i))
					x.steps(t, min(room, ahead), 0)
				}
				x.end(t)
				x.steps(t, min(room, ahead+min(n, 1)), 0)
				if x.d.Version() != version+n {
					t.Errorf("version %d, want %d", x.d.Version(), version+n)
				}
				x.unwind(t)
			}
		}
	}
}

// In a group edits that do nothing, and such that take one another back, are something done; no edits, an Apply that keeps all, errors, marks and ranges are not.
func TestP18_5WhatIsDoneInAGroup(t *testing.T) {
	for _, c := range []struct {
		name string
		call func(x *pair)
		done bool
	}{
		{"nothing", func(x *pair) {}, false},
		{"no edits", func(x *pair) { x.edit(t, api.Exact) }, false},
		{"an Apply that keeps all", func(x *pair) { x.apply(t, written("=4")) }, false},
		{"errors", func(x *pair) {
			x.edit(t, api.Exact, by(api.Bytes, 5, 5, ""))
			x.apply(t, written("=5"))
			x.apply(t, written("=2 =2"))
			x.undo(t)
			x.redo(t)
			x.begin(t)
		}, false},
		{"marks and ranges", func(x *pair) {
			x.mark(t, "m", api.Bytes, 0, api.Left, api.Exact)
			x.ranged(t, "r", api.Bytes, 0, 4, api.Left, api.Left, api.Exact)
			x.unmark(t, "m")
			x.unrange(t, "r")
		}, false},
		{"an edit that does nothing", func(x *pair) { x.write(t, "") }, true},
		{"edits that do nothing", func(x *pair) { x.write(t, ""); x.edit(t, api.Up, by(api.Units, 0, 0, "")) }, true},
		{"one that is taken back by another", func(x *pair) { x.apply(t, written("=4 +x")); x.apply(t, written("=4 -1")) }, true},
		{"an Apply", func(x *pair) { x.apply(t, written("-4")) }, true},
	} {
		x := made(t, "abc", 3)
		x.write(t, "d")
		x.write(t, "e")
		x.undo(t)
		x.begin(t)
		c.call(x)
		x.hold(t)
		if _, again := x.d.Steps(); (again == 0) != c.done {
			t.Errorf("%s: in the group there are %d steps again", c.name, again)
		}
		x.end(t)
		if c.done {
			x.steps(t, 2, 0)
		} else {
			x.steps(t, 1, 1)
		}
		x.unwind(t)
	}
}

// A group remembers marks and ranges of directly ahead of its first edit and directly behind its last one, not of its Begin and End.
func TestP18_5And9MarksInAGroup(t *testing.T) {
	x := made(t, "abcdef", 3)
	set := func(name string) {
		x.mark(t, name, api.Runes, 2, api.Left, api.Exact)
		x.ranged(t, name, api.Runes, 1, 3, api.Left, api.Right, api.Exact)
	}
	names := func(want string) {
		t.Helper()
		var marks, ranges []string
		for _, m := range x.d.Marks() {
			marks = append(marks, m.Name)
		}
		for _, r := range x.d.Ranges() {
			ranges = append(ranges, r.Name)
		}
		slices.Sort(marks)
		slices.Sort(ranges)
		if strings.Join(marks, "") != want || strings.Join(ranges, "") != want {
			t.Errorf("%v: %q, %q, want %s", x.calls, marks, ranges, want)
		}
		x.hold(t)
	}
	gone := func(name string) {
		x.unmark(t, name)
		x.unrange(t, name)
	}
	set("a")
	set("z")
	x.begin(t)
	set("b")
	gone("z")
	x.edit(t, api.Exact, by(api.Units, 0, 1, "xy"))
	set("c")
	gone("a")
	x.write(t, "")
	x.apply(t, written("=5 +z =2"))
	set("d")
	gone("b")
	x.end(t)
	names("cd")
	for range 2 {
		x.undo(t)
		names("ab")
		x.redo(t)
		names("bc")
	}
	x.unwind(t)
}

// What is composed in a group is what delta.Compose makes of it: what was put and dropped again is not seen.
func TestP18_5ComposedDelta(t *testing.T) {
	x := made(t, "abcdef", 3)
	x.begin(t)
	x.apply(t, written("=2 +xy -1 =3"))
	x.apply(t, written("=3 -2 =2"))
	x.end(t)
	back, err := x.d.Undo()
	x.want.undo()
	if !slices.Equal(back, written("=2 +cd -1 =2")) || err != api.OK {
		t.Errorf("Undo:%s, %d", told(back), err)
	}
	again, err := x.d.Redo()
	x.want.redo()
	if !slices.Equal(again, written("=2 +x -2 =2")) || err != api.OK {
		t.Errorf("Redo:%s, %d", told(again), err)
	}
	x.begin(t)
	x.apply(t, written("=2 +123 =3"))
	x.apply(t, written("=2 -3 =3"))
	x.end(t)
	back, err = x.d.Undo()
	x.want.undo()
	if !slices.Equal(back, written("=5")) || err != api.OK {
		t.Errorf("Undo:%s, %d", told(back), err)
	}
	x.unwind(t)
}

// A group behind steps that were taken back loses them at its first edit, and is the one step then.
func TestP18_5GroupBehindStepsTakenBack(t *testing.T) {
	for _, n := range []int{1, 2, 3} {
		for taken := range 4 {
			x := made(t, "abc", 3)
			for i := range 3 {
				x.mark(t, fmt.Sprint("m", i), api.Bytes, i, api.Left, api.Exact)
				x.write(t, fmt.Sprint(i))
			}
			for range taken {
				x.undo(t)
			}
			x.begin(t)
			x.mark(t, "group", api.Bytes, 1, api.Right, api.Exact)
			for i := range n {
				x.edit(t, api.Exact, by(api.Runes, i, i+1, "\U0001F600"))
				x.steps(t, 3-taken, 0)
			}
			x.end(t)
			x.steps(t, min(3, 4-taken), 0)
			x.unwind(t)
		}
	}
}

// A group in which much is done is still one step.
func TestP18_5LongGroup(t *testing.T) {
	x := made(t, "", 1)
	x.mark(t, "m", api.Bytes, 0, api.Right, api.Exact)
	x.begin(t)
	for i := range 3000 {
		if i%10 == 9 {
			x.edit(t, api.Down, by(api.Runes, i/3, i/3+2, ""))
		} else {
			x.write(t, pieces[2+i%12])
		}
	}
	x.end(t)
	x.steps(t, 1, 0)
	x.unwind(t)
}

// A group of very many edits all over the text is one step, with the one delta that does all of them.
func TestP18_5ScatteredGroup(t *testing.T) {
	const n = api.MaxEdits
	text := strings.Repeat("a\u20ac", n)
	d, _ := doc.New([]byte(text), 1)
	d.Begin()
	for i := range n {
		at := i * 7919 % n * 4
		if _, _, err := d.Edit([]api.Edit{by(api.Bytes, at, at+1, "x")}, api.Exact); err != api.OK {
			t.Fatalf("Edit %d: %d", i, err)
		}
	}
	d.End()
	change := func(text string) api.Delta {
		var x api.Delta
		for range n {
			x = append(x, put(text), drop(1), keep(3))
		}
		return x
	}
	if back, err := d.Undo(); !slices.Equal(back, change("a")) || err != api.OK || textOf(t, d) != text {
		t.Errorf("Undo:%s, %d", told(back), err)
	}
	if again, err := d.Redo(); !slices.Equal(again, change("x")) || err != api.OK || textOf(t, d) != strings.Repeat("x\u20ac", n) {
		t.Errorf("Redo:%s, %d", told(again), err)
	}
}

// In a group long and short deltas, in any order, are composed as they stand.
func TestP18_5DeltasOfUnlikeLengths(t *testing.T) {
	t.Parallel()
	rng := rand.New(rand.NewSource(1805))
	for range 400 {
		x := made(t, strings.Repeat("ab\u20ac", 10), 2)
		x.mark(t, "m", api.Bytes, rng.Intn(50), gravities[rng.Intn(2)], api.Down)
		x.write(t, "x")
		x.begin(t)
		for range 1 + rng.Intn(12) {
			x.apply(t, deltaOf(rng, len(x.want.text), 1<<rng.Intn(6)))
			x.hold(t)
		}
		x.end(t)
		x.unwind(t)
	}
}

// deltaOf is a canonical delta of n bytes, of at most so many changes.
func deltaOf(rng *rand.Rand, n, changes int) api.Delta {
	var places []int
	for range 2 * changes {
		places = append(places, rng.Intn(n+1))
	}
	slices.Sort(places)
	var cs []api.Change
	for i := 0; i < len(places); i += 2 {
		cs = append(cs, api.Change{Lo: places[i], Hi: min(places[i+1], places[i]+2), Text: pieces[rng.Intn(len(pieces))]})
	}
	x, _ := delta.Of(n, cs)
	return x
}
