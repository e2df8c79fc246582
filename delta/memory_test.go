package delta_test

import (
	"bytes"
	"slices"
	"testing"

	"galley/api"
	"galley/delta"
)

// spare is a list with room behind it, filled with what must stay.
func spare[T any](list []T, fill T) []T {
	all := slices.Clone(list)
	for range 5 {
		all = append(all, fill)
	}
	return all[:len(list)]
}

// full is a list with its spare room.
func full[T any](list []T) []T { return list[:cap(list)] }

// held tells whether a call leaves its lists as they are, keeps none of them, and answers new memory each time: the first answer, and then what was handed in, are written over, spare room too, and the second answer must stay.
func held[A, B, C comparable](t *testing.T, name string, a []A, b []B, call func(a []A, b []B) []C) {
	t.Helper()
	var fillA A
	var fillB B
	var fillC C
	a, b = spare(a, fillA), spare(b, fillB)
	wasA, wasB := slices.Clone(full(a)), slices.Clone(full(b))
	first, second := call(a, b), call(a, b)
	want := slices.Clone(first)
	if !slices.Equal(full(a), wasA) || !slices.Equal(full(b), wasB) {
		t.Errorf("%s: it became %v, %v", name, full(a), full(b))
	}
	over(first, fillC)
	if !slices.Equal(full(a), wasA) || !slices.Equal(full(b), wasB) || !slices.Equal(second, want) {
		t.Errorf("%s: the answer shares memory: %v, %v, %v", name, full(a), full(b), second)
	}
	over(a, fillA)
	over(b, fillB)
	if !slices.Equal(second, want) {
		t.Errorf("%s: the second answer became %v, want %v", name, second, want)
	}
}

func over[T any](list []T, fill T) {
	for i := range full(list) {
		full(list)[i] = fill
	}
}

// Lists and bytes that are handed in stay as they are, spare room too, and aren't kept; an answer is new memory, also where it is equal to what was handed in.
func TestP13_5AndR6(t *testing.T) {
	x := []byte("abcdef")
	none := []int(nil)
	for _, d := range []api.Delta{
		written("=2 +xy -1 =3"), written("=6"), written("+x -6"), written("-6"), written("+x =6 +y"), written("-1 =5"), written("=1 +x =1 +y =1 +z =1 -2"),
	} {
		name := told(d)
		held(t, "Valid of"+name, d, none, func(d []api.Op, _ []int) []bool { return []bool{delta.Valid(d)} })
		held(t, "Lens of"+name, d, none, func(d []api.Op, _ []int) []int { from, to, _ := delta.Lens(d); return []int{from, to} })
		held(t, "Canon of"+name, d, none, func(d []api.Op, _ []int) []api.Op { c, _ := delta.Canon(d); return c })
		held(t, "Changes of"+name, d, none, func(d []api.Op, _ []int) []api.Change { cs, _ := delta.Changes(d); return cs })
		held(t, "Apply of"+name, x, d, func(x []byte, d []api.Op) []byte { y, _ := delta.Apply(x, d); return y })
		held(t, "Invert of"+name, x, d, func(x []byte, d []api.Op) []api.Op { back, _ := delta.Invert(x, d); return back })
		cs, _ := delta.Changes(d)
		held(t, "Of of"+name, cs, none, func(cs []api.Change, _ []int) []api.Op { d, _ := delta.Of(6, cs); return d })
		_, to, _ := delta.Lens(d)
		ahead, behind := written("=6"), api.Delta{keep(to)}
		if to == 0 {
			behind = nil
		}
		held(t, "Compose of"+name, d, behind, func(a, b []api.Op) []api.Op { c, _ := delta.Compose(a, b); return c })
		held(t, "Compose to"+name, ahead, d, func(a, b []api.Op) []api.Op { c, _ := delta.Compose(a, b); return c })
		back, _ := delta.Invert(x, d)
		held(t, "Compose back from"+name, d, back, func(a, b []api.Op) []api.Op { c, _ := delta.Compose(a, b); return c })
	}
	list := written("=1 =1 -1 +x -0 +y -1 =2")
	held(t, "Canon", list, none, func(d []api.Op, _ []int) []api.Op { c, _ := delta.Canon(d); return c })
	// Nothing is changed beside an error either.
	held(t, "Canon with an error", written("=1 =1 -2 =-1"), none, func(d []api.Op, _ []int) []api.Op { c, _ := delta.Canon(d); return c })
	held(t, "Compose with an error", written("=1 +x"), written("=1 =1"), func(a, b []api.Op) []api.Op { c, _ := delta.Compose(a, b); return c })
	held(t, "Apply with an error", x, written("=1 -1"), func(x []byte, d []api.Op) []byte { y, _ := delta.Apply(x, d); return y })
	held(t, "Of with an error", []api.Change{{Lo: 3, Hi: 4}, {Lo: 1, Hi: 2}}, none, func(cs []api.Change, _ []int) []api.Op { d, _ := delta.Of(6, cs); return d })
}

// The texts that Invert puts are those that the bytes had, whatever is done to these since.
func TestP13_5InvertKeepsNoBytes(t *testing.T) {
	x := []byte("abcdef")
	back, _ := delta.Invert(x, written("=2 -3 =1"))
	copy(x, "123456")
	if !slices.Equal(back, written("=2 +cde =1")) {
		t.Errorf("it became%s", told(back))
	}
}

// A list that is empty may be nil or empty.
func TestR5EmptyLists(t *testing.T) {
	nothing := [][]api.Op{nil, {}, written("=6")[:0]}
	for _, a := range nothing {
		if from, to, err := delta.Lens(a); from != 0 || to != 0 || err != api.OK || !delta.Valid(a) {
			t.Errorf("Lens: %d, %d, %d", from, to, err)
		}
		if got, err := delta.Canon(a); len(got) != 0 || err != api.OK {
			t.Errorf("Canon:%s, %d", told(got), err)
		}
		if got, err := delta.Changes(a); len(got) != 0 || err != api.OK {
			t.Errorf("Changes: %v, %d", got, err)
		}
		for _, x := range [][]byte{nil, {}, []byte("abc")[:0]} {
			if got, err := delta.Apply(x, a); len(got) != 0 || err != api.OK {
				t.Errorf("Apply: %q, %d", got, err)
			}
			if got, err := delta.Invert(x, a); len(got) != 0 || err != api.OK {
				t.Errorf("Invert:%s, %d", told(got), err)
			}
			if got, err := delta.Apply(x, written("+xy")); !bytes.Equal(got, []byte("xy")) || err != api.OK {
				t.Errorf("Apply: %q, %d", got, err)
			}
		}
		for _, b := range nothing {
			if got, err := delta.Compose(a, b); len(got) != 0 || err != api.OK {
				t.Errorf("Compose:%s, %d", told(got), err)
			}
		}
	}
	for _, cs := range [][]api.Change{nil, {}} {
		if got, err := delta.Of(0, cs); len(got) != 0 || err != api.OK {
			t.Errorf("Of:%s, %d", told(got), err)
		}
	}
}
