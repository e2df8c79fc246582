package past_test

import (
	"fmt"
	"slices"
	"strings"
	"testing"

	"galley/api"
	"galley/past"
)

// someWords are words of any bytes.
var someWords = []string{
	"", "a", "one", " ", "\x00", "\x00\x00", "\xff", "\xe2\x82", "\xe2\x82\xac", "\xed\xa0\x80", "\xef\xbf\xbd", "\U0001F600", "e\u0301", "\r\n", "a\nb", "\"", strings.Repeat("x", 65), strings.Repeat("\xff", 4097), strings.Repeat("\u00e9", 1<<16),
}

// rooms are the numbers of steps for which there may be room, at the edges and between.
var rooms = []int{0, 1, 2, 3, 7, 4095, most}

func TestP17_1New(t *testing.T) {
	for _, room := range []int{least, least + 1, -4097, -2, -1, most + 1, most + 2, 1 << 31, 1 << 32, 1<<32 + 1, greatest - 1, greatest} {
		if p, err := past.New("a", room); p != nil || err != api.ErrRange {
			t.Errorf("New with most %d: nil: %v, %d", room, p == nil, err)
		}
		if p, err := past.New[any](nil, room); p != nil || err != api.ErrRange {
			t.Errorf("New of nothing, with most %d: nil: %v, %d", room, p == nil, err)
		}
	}
	for _, room := range rooms {
		x := made(t, "a", room)
		x.hold(t)
		x.same(t, x.undo(t), api.ErrPast)
		x.same(t, x.redo(t), api.ErrPast)
		x.end(t) // no group is open
		x.hold(t)
	}
}

// expect holds one answer, all of its results.
func expect(t *testing.T, call string, got []any, want ...any) {
	t.Helper()
	if shown(got) != shown(want) {
		t.Errorf("%s: %s, want %s", call, shown(got), shown(want))
	}
}

// shown are results such that all of them can be told apart, but for empty lists, which mean the same.
func shown(results []any) string {
	var each []string
	for _, x := range results {
		if list, ok := x.([]string); ok {
			each = append(each, fmt.Sprintf("%q", list))
		} else {
			each = append(each, fmt.Sprintf("%#v", x))
		}
	}
	return strings.Join(each, ", ")
}

func all(got ...any) []any { return got }

func two(a, b any) []any { return []any{a, b} }

func three(a, b, c any) []any { return []any{a, b, c} }

func TestP17_1To4Examples(t *testing.T) {
	p, err := past.New("a", 2)
	expect(t, "New", all(p != nil, err), true, api.OK)
	expect(t, "Undo", three(p.Undo()), "", "", api.ErrPast)
	expect(t, "Do, Do, Do", all(p.Do("b", "one"), p.Do("c", "two"), p.Do("d", "three")), api.OK, api.OK, api.OK)
	expect(t, "Words", two(p.Words()), []string{"three", "two"}, []string{})
	expect(t, "Undo", three(p.Undo()), "c", "three", api.OK)
	expect(t, "Undo", three(p.Undo()), "b", "two", api.OK)
	expect(t, "Undo", three(p.Undo()), "", "", api.ErrPast)
	expect(t, "Words", two(p.Words()), []string{}, []string{"two", "three"})
	expect(t, "Redo", three(p.Redo()), "c", "two", api.OK)
	expect(t, "Begin", all(p.Begin("group")), api.OK)
	expect(t, "Undo in a group", three(p.Undo()), "", "", api.ErrOpen)
	expect(t, "Begin, Forget in a group", all(p.Begin("x"), p.Forget()), api.ErrOpen, api.ErrOpen)
	expect(t, "End", all(p.End()), api.OK)
	expect(t, "Words", two(p.Words()), []string{"two"}, []string{"three"})
	expect(t, "a group", all(p.Begin("group"), p.Do("e", "x"), p.Do("f", "y"), p.End()), api.OK, api.OK, api.OK, api.OK)
	expect(t, "Words", two(p.Words()), []string{"group", "two"}, []string{})
	expect(t, "Undo", three(p.Undo()), "c", "group", api.OK)
	expect(t, "End", all(p.End()), api.ErrOpen)
	expect(t, "Forget", all(p.Forget()), api.OK)
	expect(t, "Undo", three(p.Undo()), "", "", api.ErrPast)
	expect(t, "Now", all(p.Now()), "c")
	for _, room := range []int{-1, 4097} {
		p, err := past.New("a", room)
		expect(t, "New", all(p == nil, err), true, api.ErrRange)
	}
}

// Words of any bytes come back as they were, by every call that tells them.
func TestP17_1WordsOfAnyBytes(t *testing.T) {
	list := slices.Clone(someWords)
	for b := range 256 {
		list = append(list, string([]byte{byte(b)}), string([]byte{byte(b), byte(b)}))
	}
	x := made(t, -1, most)
	for i, word := range list {
		x.do(t, i, word)
		x.begin(t, word)
		x.do(t, -i, "lost")
		x.end(t)
	}
	x.unwind(t)
	for range list {
		x.undo(t)
	}
	x.unwind(t)
	if back, again := x.p.Words(); len(back) != len(list) || len(again) != len(list) {
		t.Errorf("%d words back, %d again, of %d each", len(back), len(again), len(list))
	}
}

// A word may be there several times, and a state too: they are told step by step.
func TestP17_1SameWordsAndStates(t *testing.T) {
	x := made(t, 1, 4)
	for range 6 {
		x.do(t, 1, "same")
		x.hold(t)
	}
	x.unwind(t)
	x.undo(t)
	x.undo(t)
	expect(t, "Words", two(x.p.Words()), []string{"same", "same"}, []string{"same", "same"})
	x.do(t, 1, "same")
	expect(t, "Words", two(x.p.Words()), []string{"same", "same", "same"}, []string{})
	x.unwind(t)
}

// Undo behind a Do answers the state that there was ahead of it, Redo behind that the state of the Do.
func TestP17_2UndoAndRedoOfADo(t *testing.T) {
	for _, room := range []int{1, 2, 3, most} {
		p, _ := past.New(0, room)
		for i := 1; i < 9; i++ {
			if err := p.Do(i, fmt.Sprint(i)); err != api.OK || p.Now() != i {
				t.Fatalf("Do(%d): %d, %d", i, p.Now(), err)
			}
			for range 3 {
				expect(t, "Undo", three(p.Undo()), i-1, fmt.Sprint(i), api.OK)
				expect(t, "Now", all(p.Now()), i-1)
				expect(t, "Redo", three(p.Redo()), i, fmt.Sprint(i), api.OK)
				expect(t, "Now", all(p.Now()), i)
				expect(t, "Redo", three(p.Redo()), 0, "", api.ErrPast)
			}
		}
	}
}

// Any number of Undos, and then as many Redos, lead to where one was; and the other way round.
func TestP17_2ToTheEndAndBack(t *testing.T) {
	for _, steps := range []int{0, 1, 2, 9, 100} {
		x := made(t, 0, 100)
		for i := range steps {
			x.do(t, i+1, fmt.Sprint("w", i))
		}
		for far := range steps + 1 {
			wasBack, wasAgain := x.p.Words()
			for range far {
				x.undo(t)
			}
			x.hold(t)
			for range far {
				x.redo(t)
			}
			x.hold(t)
			back, again := x.p.Words()
			if x.p.Now() != steps || !slices.Equal(back, wasBack) || !slices.Equal(again, wasAgain) {
				t.Fatalf("%d steps, %d back and again: %d, %q, %q", steps, far, x.p.Now(), back, again)
			}
		}
		x.unwind(t)
	}
}

// As many steps as there is room for, and one more, with the greatest room.
func TestP17_3MaxPast(t *testing.T) {
	p, _ := past.New(0, most)
	for i := 1; i <= most; i++ {
		p.Do(i, fmt.Sprint(i))
	}
	back, again := p.Words()
	if len(back) != most || back[0] != "4096" || back[most-1] != "1" || len(again) != 0 {
		t.Fatalf("%d words back, %d again", len(back), len(again))
	}
	p.Do(most+1, "one more")
	back, again = p.Words()
	if len(back) != most || back[0] != "one more" || back[1] != "4096" || back[most-1] != "2" || len(again) != 0 {
		t.Fatalf("one more: %d words back, %d again", len(back), len(again))
	}
	for i := most; i > 0; i-- {
		if s, _, err := p.Undo(); s != i || err != api.OK {
			t.Fatalf("Undo: %d, %d, want %d", s, err, i)
		}
	}
	expect(t, "Undo at the end", three(p.Undo()), 0, "", api.ErrPast)
	if back, again = p.Words(); len(back) != 0 || len(again) != most || again[0] != "2" || again[most-1] != "one more" {
		t.Fatalf("all taken back: %d words back, %d again", len(back), len(again))
	}
	for i := 2; i <= most+1; i++ {
		if s, _, err := p.Redo(); s != i || err != api.OK {
			t.Fatalf("Redo: %d, %d, want %d", s, err, i)
		}
	}
	expect(t, "Redo at the end", three(p.Redo()), 0, "", api.ErrPast)
}

// Many more steps than there is room for: just the last ones are kept, whatever the room.
func TestP17_3FarthestIsLost(t *testing.T) {
	for _, room := range []int{0, 1, 2, 3, 4, 5, 8, 16, 17, 100} {
		for _, dos := range []int{room - 1, room, room + 1, 2 * room, 2*room + 1, 5*room + 3, 1000} {
			x := made(t, 0, room)
			for i := range dos {
				x.do(t, i+1, fmt.Sprint(i+1))
			}
			back, _ := x.p.Words()
			if len(back) != max(0, min(room, dos)) {
				t.Fatalf("room for %d, %d Dos: %d steps", room, dos, len(back))
			}
			x.unwind(t)
		}
	}
}

// With room for none a Do is done, and nothing is kept of it, in a group and outside.
func TestP17_3NoRoom(t *testing.T) {
	x := made(t, "a", 0)
	for _, state := range []string{"b", "c", "d"} {
		x.do(t, state, "word")
		expect(t, "Now", all(x.p.Now()), state)
		expect(t, "Words", two(x.p.Words()), []string{}, []string{})
		expect(t, "Undo", three(x.p.Undo()), "", "", api.ErrPast)
		expect(t, "Redo", three(x.p.Redo()), "", "", api.ErrPast)
	}
	x.begin(t, "group")
	x.do(t, "e", "word")
	x.undo(t)
	x.end(t)
	expect(t, "Now", all(x.p.Now()), "e")
	expect(t, "Words", two(x.p.Words()), []string{}, []string{})
	expect(t, "Undo", three(x.p.Undo()), "", "", api.ErrPast)
	x.forget(t)
	x.unwind(t)
}

// A Do loses the steps again, all of them, and no step back but the farthest, and that only where there is no room.
func TestP17_3DoLosesStepsAgain(t *testing.T) {
	for _, room := range []int{1, 2, 3, 5, 6, 9} {
		for steps := range 8 {
			for undos := range min(room, steps) + 1 {
				x := made(t, 0, room)
				for i := range steps {
					x.do(t, i+1, fmt.Sprint("w", i))
				}
				for range undos {
					x.undo(t)
				}
				was, _ := x.p.Words()
				x.do(t, 100, "new")
				want := append([]string{"new"}, was...)
				expect(t, "Words", two(x.p.Words()), want[:min(room, len(want))], []string{})
				expect(t, "Redo", three(x.p.Redo()), 0, "", api.ErrPast)
				x.unwind(t)
			}
		}
	}
}

func TestP17_1Forget(t *testing.T) {
	for _, script := range []string{"", "d", "ddd", "dddd", "dddu", "ddduu", "ddduuu", "bde", "bdeu", "dube"} {
		x := made(t, 0, 3)
		for i := range len(script) {
			act(t, x, script[i], i+1)
		}
		was := x.p.Now()
		for range 2 {
			x.forget(t)
			expect(t, "Now behind Forget", all(x.p.Now()), was)
			expect(t, "Words behind Forget", two(x.p.Words()), []string{}, []string{})
			expect(t, "Undo behind Forget", three(x.p.Undo()), 0, "", api.ErrPast)
			expect(t, "Redo behind Forget", three(x.p.Redo()), 0, "", api.ErrPast)
		}
		for i := range 4 {
			x.do(t, 50+i, "behind it")
			x.hold(t)
		}
		x.unwind(t)
	}
}

// The errors of a past that is there, each where it is asked for, with nothing beside it.
func TestP17_1Errors(t *testing.T) {
	p, _ := past.New("a", 3)
	expect(t, "End without a group", all(p.End()), api.ErrOpen)
	expect(t, "Undo without steps", three(p.Undo()), "", "", api.ErrPast)
	expect(t, "Redo without steps", three(p.Redo()), "", "", api.ErrPast)
	p.Begin("group")
	// ErrOpen is told ahead of ErrPast.
	expect(t, "Undo in a group, without steps", three(p.Undo()), "", "", api.ErrOpen)
	expect(t, "Redo in a group, without steps", three(p.Redo()), "", "", api.ErrOpen)
	expect(t, "Begin in a group", all(p.Begin("")), api.ErrOpen)
	expect(t, "Forget in a group", all(p.Forget()), api.ErrOpen)
	p.Do("b", "x")
	expect(t, "Undo in a group, behind a Do", three(p.Undo()), "", "", api.ErrOpen)
	p.End()
	expect(t, "End behind End", all(p.End()), api.ErrOpen)
	p.Do("c", "y")
	p.Undo()
	p.Begin("")
	expect(t, "Undo in a group, with steps on both sides", three(p.Undo()), "", "", api.ErrOpen)
	expect(t, "Redo in a group, with steps on both sides", three(p.Redo()), "", "", api.ErrOpen)
	expect(t, "Forget in a group, with steps on both sides", all(p.Forget()), api.ErrOpen)
	p.End()
	expect(t, "Words", two(p.Words()), []string{"group"}, []string{"y"})
	expect(t, "Redo", three(p.Redo()), "c", "y", api.OK)
}

// nilPast holds that a nil past of a kind of states answers as the chapter says.
func nilPast[T comparable](t *testing.T, other T) {
	t.Helper()
	var p *past.Past[T]
	var none T
	for range 2 {
		if got := p.Now(); got != none {
			t.Errorf("Now: %v", got)
		}
		if back, again := p.Words(); len(back) != 0 || len(again) != 0 {
			t.Errorf("Words: %q, %q", back, again)
		}
		if s, w, err := p.Undo(); s != none || w != "" || err != api.ErrNil {
			t.Errorf("Undo: %v, %q, %d", s, w, err)
		}
		if s, w, err := p.Redo(); s != none || w != "" || err != api.ErrNil {
			t.Errorf("Redo: %v, %q, %d", s, w, err)
		}
		for i, err := range []api.Errno{p.Do(other, "word"), p.Do(none, ""), p.Begin("group"), p.Begin(""), p.End(), p.Forget()} {
			if err != api.ErrNil {
				t.Errorf("call %d: %d", i, err)
			}
		}
	}
}

func TestR7AndP17_1NilPast(t *testing.T) {
	nilPast(t, 7)
	nilPast(t, "text")
	nilPast(t, 1.5)
	nilPast(t, true)
	nilPast(t, new(int))
	nilPast(t, api.Change{Lo: 1, Hi: 2, Text: "x"})
	nilPast(t, [3]string{"a", "b", "c"})
	nilPast[any](t, "something")
	nilPast(t, struct{}{})
}
