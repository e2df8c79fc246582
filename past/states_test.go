package past_test

import (
	"math"
	"testing"

	"galley/api"
	"galley/past"
)

// walked holds that four states of a kind come back as they were handed in, by Do, by a group, by Undo and by Redo.
func walked[T any](t *testing.T, kind string, same func(a, b T) bool, a, b, c, d T) {
	t.Helper()
	p, err := past.New(a, 2)
	if err != api.OK || !same(p.Now(), a) {
		t.Fatalf("%s: New: %d", kind, err)
	}
	was := func(call string, got T, word string, err api.Errno, want T, wantWord string) {
		t.Helper()
		if !same(got, want) || !same(p.Now(), want) || word != wantWord || err != api.OK {
			t.Errorf("%s: %s: %v, %q, %d, want %v, %q", kind, call, got, word, err, want, wantWord)
		}
	}
	was("Do", b, "", p.Do(b, "b"), b, "")
	was("Begin", b, "", p.Begin("d"), b, "")
	was("Do", c, "", p.Do(c, "c"), c, "")
	was("Do", d, "", p.Do(d, "d"), d, "")
	was("End", d, "", p.End(), d, "")
	for range 2 {
		s, w, err := p.Undo()
		was("Undo", s, w, err, b, "d")
		s, w, err = p.Undo()
		was("Undo", s, w, err, a, "b")
		s, w, err = p.Redo()
		was("Redo", s, w, err, b, "b")
		s, w, err = p.Redo()
		was("Redo", s, w, err, d, "d")
	}
	was("Forget", d, "", p.Forget(), d, "")
}

func equal[T comparable](a, b T) bool { return a == b }

// likeAsBits: one NaN is no other, and no zero is another one.
func likeAsBits(a, b float64) bool { return math.Float64bits(a) == math.Float64bits(b) }

// oneList: are they the same memory, with the same spare room?
func oneList(a, b []int) bool {
	return len(a) == len(b) && cap(a) == cap(b) && (a == nil) == (b == nil) && (cap(a) == 0 || &a[:1][0] == &b[:1][0])
}

type tree struct {
	name string
	kids []*tree
	by   map[string]int
}

func TestP17_1StatesOfAllKinds(t *testing.T) {
	walked(t, "numbers", equal, 1, math.MinInt, math.MaxInt, 0)
	walked(t, "bytes", equal, byte(255), 0, 1, 128)
	walked(t, "floats", likeAsBits, math.NaN(), math.Copysign(0, -1), 0, math.Float64frombits(0x7ff8000000000123))
	walked(t, "bools", equal, true, false, true, false)
	walked(t, "texts", equal, "", "\xff\x00", "text", "\U0001F600")
	walked(t, "structs", equal, api.Change{}, api.Change{Lo: 1, Hi: 2, Text: "x"}, api.Change{Text: "y"}, api.Change{Lo: -1})
	walked(t, "arrays", equal, [2]string{}, [2]string{"a", "b"}, [2]string{"b", "a"}, [2]string{"", "a"})
	walked(t, "structs of nothing", equal, struct{}{}, struct{}{}, struct{}{}, struct{}{})
	walked(t, "things of any kind", equal, any(nil), any(1), any("one"), any(api.Spot{Line: 1}))
	walked(t, "things that can't be compared", func(a, b any) bool { return oneList(a.([]int), b.([]int)) }, any([]int{1}), any([]int{2}), any([]int(nil)), any([]int{}))
	walked(t, "pointers", equal, new(tree), nil, &tree{name: "a"}, &tree{name: "a"})
	walked(t, "lists", oneList, []int{1, 2, 3}, nil, []int{}, make([]int, 1, 9))
	walked(t, "channels", equal, make(chan int), nil, make(chan int), make(chan int, 1))
	walked(t, "structs that can't be compared", func(a, b tree) bool { return a.name == b.name }, tree{name: "a"}, tree{name: "b", kids: []*tree{{}}}, tree{}, tree{by: map[string]int{"a": 1}})
	walked(t, "functions", func(a, b func() int) bool { return a() == b() }, func() int { return 1 }, func() int { return 2 }, func() int { return 3 }, func() int { return 4 })
	walked(t, "maps", func(a, b map[string]int) bool { return a["x"] == b["x"] && (a == nil) == (b == nil) }, map[string]int{"x": 1}, nil, map[string]int{"x": 2}, map[string]int{})
}

// States are kept as they are handed in: what they point to is not copied, so that what is done to it is seen.
func TestP17_1WhatStatesPointToIsShared(t *testing.T) {
	list, by, at := []int{1, 2}, map[string]int{"a": 1}, &tree{name: "a"}
	type state struct {
		list []int
		by   map[string]int
		at   *tree
	}
	p, _ := past.New(state{list, by, at}, 3)
	p.Do(state{}, "nothing")
	list[0], by["a"], at.name = 9, 8, "changed"
	s, word, err := p.Undo()
	if word != "nothing" || err != api.OK || s.list[0] != 9 || s.by["a"] != 8 || s.at != at || s.at.name != "changed" {
		t.Errorf("Undo: %v, %q, %d", s, word, err)
	}
	s.list[1] = 7
	if now := p.Now(); now.list[1] != 7 || list[1] != 7 {
		t.Errorf("Now: %v", now)
	}
}

// A state that is a value is a copy: what becomes of the one that was handed in, or answered, is nothing to the past.
func TestR6StatesThatAreValues(t *testing.T) {
	first := [3]int{1, 2, 3}
	p, _ := past.New(first, 3)
	first[0] = 9
	next := [3]int{4, 5, 6}
	p.Do(next, "next")
	next[0] = 9
	got := p.Now()
	got[1] = 9
	if p.Now() != [3]int{4, 5, 6} {
		t.Errorf("Now: %v", p.Now())
	}
	s, _, _ := p.Undo()
	s[2] = 9
	if p.Now() != [3]int{1, 2, 3} {
		t.Errorf("Now behind Undo: %v", p.Now())
	}
	if s, _, _ = p.Redo(); s != [3]int{4, 5, 6} {
		t.Errorf("Redo: %v", s)
	}
}

// Functions that are states are never called.
func TestR10FunctionsAreNotCalled(t *testing.T) {
	called := 0
	f := func() { called++ }
	p, _ := past.New(f, 1)
	p.Do(f, "")
	p.Undo()
	p.Redo()
	p.Begin("")
	p.Do(f, "")
	p.End()
	p.Words()
	p.Forget()
	if called != 0 {
		t.Errorf("called %d times", called)
	}
	p.Now()()
	if called != 1 {
		t.Error("another function")
	}
}

// A state may be a past itself.
func TestP17_1PastsWithinPasts(t *testing.T) {
	inner, _ := past.New(1, 2)
	p, _ := past.New[*past.Past[int]](nil, 2)
	p.Do(inner, "inner")
	p.Now().Do(2, "two")
	p.Undo()
	if p.Now().Do(3, "three") != api.ErrNil {
		t.Error("a nil past did something")
	}
	p.Redo()
	if p.Now() != inner || p.Now().Now() != 2 {
		t.Errorf("Now: %d", p.Now().Now())
	}
}
