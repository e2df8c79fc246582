package shift_test

import (
	"slices"
	"testing"

	"galley/api"
	"galley/shift"
)

var filler = api.Op{Kind: 9, N: 99, Text: "filler"}

// spare is a list with room behind it, filled with what must stay.
func spare[T any](list []T, fill T) []T {
	all := slices.Clone(list)
	for range 5 {
		all = append(all, fill)
	}
	return all[:len(list)]
}

// full is a list with its spare room.
func full[T any](list []T) []T { return list[:cap(list)] }

// copies are lists with their spare room, in memory of their own.
func copies(ds []api.Delta) []api.Delta {
	all := make([]api.Delta, len(ds))
	for i, d := range ds {
		all[i] = slices.Clone(full(d))
	}
	return all
}

// held tells whether a call leaves its lists as they are, keeps none of them, and answers new memory each time: each list of the first answer, and then what was handed in, are written over, spare room too, and all others must stay.
func held(t *testing.T, name string, as []api.Delta, b api.Delta, call func(as []api.Delta, b api.Delta) []api.Delta) {
	t.Helper()
	given := make([]api.Delta, len(as))
	for i, a := range as {
		given[i] = spare(a, filler)
	}
	given = spare(given, spare(api.Delta{}, filler))
	b = spare(b, filler)
	was, wasB := copies(full(given)), slices.Clone(full(b))
	first, second := call(given, b), call(given, b)
	wantFirst, want := copies(first), copies(second)
	if !equalAll(copies(full(given)), was) || !slices.Equal(full(b), wasB) {
		t.Fatalf("%s: what was handed in became%s;%s", name, toldAll(given), told(b))
	}
	for i, d := range first {
		if !slices.Equal(d, second[i]) {
			t.Fatalf("%s:%s, and then%s", name, told(d), told(second[i]))
		}
	}
	for i := range first {
		wipe(first[i], api.Op{Text: "first"})
		if !equalAll(copies(full(given)), was) || !slices.Equal(full(b), wasB) || !equalAll(copies(second), want) {
			t.Fatalf("%s: the answer shares memory:%s;%s;%s", name, toldAll(given), told(b), toldAll(second))
		}
		for j := i + 1; j < len(first); j++ {
			if !slices.Equal(full(first[j]), wantFirst[j]) {
				t.Fatalf("%s: two lists of the answer share memory:%s", name, told(first[j]))
			}
		}
	}
	for _, a := range full(given) {
		wipe(a, api.Op{Text: "given"})
	}
	wipe(given, nil)
	wipe(b, api.Op{Text: "given"})
	if !equalAll(copies(second), want) {
		t.Fatalf("%s: the second answer became%s", name, toldAll(second))
	}
}

func wipe[T any](list []T, fill T) {
	for i := range full(list) {
		full(list)[i] = fill
	}
}

func overFirst(as []api.Delta, b api.Delta) []api.Delta {
	d, _ := shift.Over(as[0], b, true)
	return []api.Delta{d}
}

func overLast(as []api.Delta, b api.Delta) []api.Delta {
	d, _ := shift.Over(as[0], b, false)
	return []api.Delta{d}
}

func both(as []api.Delta, b api.Delta) []api.Delta {
	a2, b2, _ := shift.Both(as[0], b)
	return []api.Delta{a2, b2}
}

func chain(as []api.Delta, b api.Delta) []api.Delta {
	d, list, _ := shift.Chain(as, b)
	all := append([]api.Delta{d}, list...)
	wipe(list, nil) // the list is the answer's own, and the next one isn't this one
	return all
}

func place(as []api.Delta, b api.Delta) []api.Delta {
	var all api.Delta
	for p := -1; p < 8; p++ {
		for g := range api.Gravity(4) {
			n, _ := shift.Place(b, p, g)
			all = append(all, keep(n))
		}
	}
	return []api.Delta{all}
}

// Lists that are handed in stay as they are, spare room too, and aren't kept; answers are new memory, also where one is equal to what was handed in.
func TestP14_5AndR6(t *testing.T) {
	ds := writtenAll("=2 +xy -1 =3", "=6", "+x -6", "-6", "+x =6 +y", "-1 =5", "=1 +x =1 +y =1 +z =1 -2", "=1 -2 =3", "=2 +z =4")
	for _, a := range ds {
		for _, b := range ds {
			name := told(a) + ";" + told(b)
			held(t, "Place:"+name, []api.Delta{a}, b, place)
			held(t, "Over, first:"+name, []api.Delta{a}, b, overFirst)
			held(t, "Over, not first:"+name, []api.Delta{a}, b, overLast)
			held(t, "Both:"+name, []api.Delta{a}, b, both)
			held(t, "Chain of none:"+name, nil, b, chain)
			held(t, "Chain:"+name, []api.Delta{a}, b, chain)
			held(t, "Chain of all kept:"+name, writtenAll("=6", "=6", "=6"), b, chain)
			// Nothing is changed beside an error either.
			misfit := written("=9 +x")
			held(t, "Over with an error:"+name, []api.Delta{misfit}, b, overFirst)
			held(t, "Both with an error:"+name, []api.Delta{misfit}, b, both)
			held(t, "Chain with an error:"+name, []api.Delta{written("=6"), a, misfit}, b, chain)
			held(t, "Chain of a wrong one:"+name, []api.Delta{a, written("=1 =1")}, b, chain)
		}
	}
	held(t, "Chain of three", writtenAll("=2 +xy -1 =3", "=4 -3", "=1 +q =3"), written("=2 +z =4"), chain)
	held(t, "a wrong one", writtenAll("=1 =1"), written("=2"), both)
	held(t, "too long", []api.Delta{{keep(most - 1), put("x")}}, api.Delta{keep(most - 1), put("y")}, chain)
}

// The list that Chain answers isn't the one that was handed in.
func TestP14_5ChainsList(t *testing.T) {
	as := spare(writtenAll("=2", "=2"), written("=5"))
	was := slices.Clone(full(as))
	_, list, _ := shift.Chain(as, written("=2"))
	wipe(list, written("-7"))
	if !equalAll(full(as), was) {
		t.Errorf("it became%s", toldAll(full(as)))
	}
	_, list, _ = shift.Chain(as, written("=2"))
	wipe(as, written("-7"))
	if !equalAll(list, writtenAll("=2", "=2")) {
		t.Errorf("it became%s", toldAll(list))
	}
}

// A list that is empty may be nil or empty.
func TestR5EmptyLists(t *testing.T) {
	nothing := []api.Delta{nil, {}, written("=6")[:0]}
	for _, a := range nothing {
		if got, err := shift.Place(a, 0, api.Right); got != 0 || err != api.OK {
			t.Errorf("Place: %d, %d", got, err)
		}
		if got, err := shift.Place(a, 1, api.Left); got != 0 || err != api.ErrRange {
			t.Errorf("Place: %d, %d", got, err)
		}
		for _, b := range nothing {
			if got, err := shift.Over(a, b, true); len(got) != 0 || err != api.OK {
				t.Errorf("Over:%s, %d", told(got), err)
			}
			if a2, b2, err := shift.Both(a, b); len(a2) != 0 || len(b2) != 0 || err != api.OK {
				t.Errorf("Both:%s;%s, %d", told(a2), told(b2), err)
			}
			if b2, list, err := shift.Chain([]api.Delta{a, a}, b); len(b2) != 0 || !equalAll(list, []api.Delta{nil, nil}) || err != api.OK {
				t.Errorf("Chain:%s;%s, %d", told(b2), toldAll(list), err)
			}
		}
		for _, as := range [][]api.Delta{nil, {}, writtenAll("=1")[:0]} {
			if b2, list, err := shift.Chain(as, a); len(b2) != 0 || len(list) != 0 || err != api.OK {
				t.Errorf("Chain:%s;%s, %d", told(b2), toldAll(list), err)
			}
		}
		if got, err := shift.Over(a, written("+x"), false); !slices.Equal(got, written("+x")) || err != api.OK {
			t.Errorf("Over:%s, %d", told(got), err)
		}
	}
}
