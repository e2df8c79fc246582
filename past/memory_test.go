package past_test

import (
	"fmt"
	"runtime"
	"slices"
	"strings"
	"testing"
	"unsafe"
	"weak"

	"galley/past"
)

// full is a list with its spare room.
func full[T any](list []T) []T { return list[:cap(list)] }

func wipe[T any](list []T, fill T) {
	for i := range full(list) {
		full(list)[i] = fill
	}
}

// Lists of words that are answered are new memory, spare room too: neither the past nor any other list sees what is done to one.
func TestP17_5AndR6WordsAreNewMemory(t *testing.T) {
	for _, script := range []string{"", "d", "du", "ddddd", "ddddduu", "ddddduuuuu", "dddddddduuu", "dddb", "ddudbd", "ddbdde", "bdebdeu", "dddf"} {
		for _, room := range []int{0, 1, 3, 5, 8} {
			x := made(t, 0, room)
			for i := range len(script) {
				act(t, x, script[i], i+1)
			}
			var lists [][]string
			for range 3 {
				back, again := x.p.Words()
				lists = append(lists, back, again)
			}
			for i, list := range lists {
				var were [][]string
				for _, other := range lists {
					were = append(were, slices.Clone(full(other)))
				}
				wipe(list, "wiped")
				_ = append(list[:0], slices.Repeat([]string{"grown"}, cap(list)+3)...)
				_ = append(list, "grown")
				for j, other := range lists {
					if j != i && !slices.Equal(full(other), were[j]) {
						t.Fatalf("%s with room for %d: lists %d and %d share memory", script, room, i, j)
					}
				}
				x.hold(t)
			}
			x.unwind(t)
		}
	}
}

// Lists that were answered stay as they are, whatever is done to the past.
func TestP17_5WordsStay(t *testing.T) {
	x := made(t, 0, 4)
	var lists, were [][]string
	for i, letter := range []byte("dddduuurruurdddduubdderuuuufdddddd") {
		act(t, x, letter, i+1)
		back, again := x.p.Words()
		lists = append(lists, back, again)
		were = append(were, slices.Clone(back), slices.Clone(again))
	}
	for i, list := range lists {
		if !slices.Equal(list, were[i]) {
			t.Errorf("list %d became %q, was %q", i, list, were[i])
		}
	}
}

// A word that is a piece of a long text doesn't keep that text, in a group and outside.
func TestR6Words(t *testing.T) {
	long := strings.Repeat("word", 1000)
	p, _ := past.New(0, 5)
	p.Do(1, long[4:8])
	p.Begin(long[8:12])
	p.Do(2, long[12:16])
	p.End()
	p.Do(3, long[16:20])
	_, undone, _ := p.Undo()
	back, again := p.Words()
	first, last := unsafe.StringData(long), unsafe.StringData(long[len(long)-1:])
	for _, word := range append(append(back, again...), undone) {
		at := uintptr(unsafe.Pointer(unsafe.StringData(word)))
		if word != "word" || at >= uintptr(unsafe.Pointer(first)) && at <= uintptr(unsafe.Pointer(last)) {
			t.Errorf("%q is kept as a piece of the text that it was cut out of", word)
		}
	}
	runtime.KeepAlive(long)
}

// big is a state whose memory is its own.
type big struct {
	number int
	filler [64]int
}

// states are weak pointers to states that were handed in, by number.
type states map[int]weak.Pointer[big]

func (s states) made(i int) *big {
	x := &big{number: i}
	s[i] = weak.Make(x)
	return x
}

// played is a past behind a script whose call at i hands in the state i+1; the first state is 0.
func played(t *testing.T, script string, room int) (*past.Past[*big], states) {
	t.Helper()
	all := states{}
	p, _ := past.New(all.made(0), room)
	for i, letter := range []byte(script) {
		switch letter {
		case 'd':
			p.Do(all.made(i+1), fmt.Sprint(i))
		case 'u':
			p.Undo()
		case 'r':
			p.Redo()
		case 'b':
			p.Begin("group")
		case 'e':
			p.End()
		case 'f':
			p.Forget()
		}
	}
	return p, all
}

// A past keeps the states that it may answer still, and no others.
func TestP17_3LostStatesAreNotKept(t *testing.T) {
	for _, c := range []struct {
		script string
		room   int
		want   []int
	}{
		{"", 0, []int{0}},
		{"d", 0, []int{1}},
		{"ddd", 0, []int{3}},
		{"ddd", 2, []int{1, 2, 3}},
		{"dddddddd", 3, []int{5, 6, 7, 8}},
		{"dddu", 3, []int{0, 1, 2, 3}},
		{"dddud", 3, []int{0, 1, 2, 5}},
		{"ddduuud", 3, []int{0, 7}},
		{"ddduuurd", 3, []int{0, 1, 8}},
		{"dddf", 3, []int{3}},
		{"ddduuf", 3, []int{1}},
		{"bddd", 3, []int{0, 4}},
		{"bddde", 3, []int{0, 4}},
		{"dddubd", 3, []int{0, 1, 2, 6}},
		{"bddde", 0, []int{4}},
		{"dbe", 0, []int{1}},
		{"ddbddef", 2, []int{5}},
		{"ddbddeu", 2, []int{1, 2, 5}},
		{"ddduuurrruuu", 3, []int{0, 1, 2, 3}},
	} {
		p, all := played(t, c.script, c.room)
		runtime.GC()
		for i, w := range all {
			if kept := w.Value() != nil; kept != slices.Contains(c.want, i) {
				t.Errorf("%q with room for %d: state %d is kept: %v", c.script, c.room, i, kept)
			}
		}
		runtime.KeepAlive(p)
	}
}
