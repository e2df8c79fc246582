package past_test

import (
	"fmt"
	"iter"
	"math/rand"
	"strings"
	"testing"

	"galley/api"
)

// calls are the letters of scripts.
const calls = "durbef"

// act does the call of a letter; states and words are such that no two calls of a script have the same.
func act(t testing.TB, x *pair[int], letter byte, i int) {
	t.Helper()
	switch letter {
	case 'd':
		x.do(t, i, fmt.Sprint("do ", i))
	case 'u':
		x.undo(t)
	case 'r':
		x.redo(t)
	case 'b':
		x.begin(t, fmt.Sprint("group ", i))
	case 'e':
		x.end(t)
	case 'f':
		x.forget(t)
	}
}

// allScripts are all scripts of so many calls.
func allScripts(size int) iter.Seq[string] {
	return func(yield func(string) bool) {
		if size == 0 {
			yield("")
			return
		}
		for script := range allScripts(size - 1) {
			for _, letter := range calls {
				if !yield(script + string(letter)) {
					return
				}
			}
		}
	}
}

// All scripts of six calls, from a past without steps, with little room and with enough.
func TestP17_1To4AllShortScripts(t *testing.T) {
	t.Parallel()
	for room := range 4 {
		for script := range allScripts(6) {
			x := made(t, 0, room)
			for i := range len(script) {
				act(t, x, script[i], i+1)
				x.hold(t)
			}
			x.unwind(t)
		}
	}
}

// All scripts of five calls, from a past that has steps on both sides already, as many as there may be and fewer, in a group and outside.
func TestP17_1To4AllShortScriptsWithSteps(t *testing.T) {
	t.Parallel()
	for _, room := range []int{3, 4} {
		for _, first := range []string{"dddu", "ddduu", "ddduuu", "dddub", "dddubd", "dddddb", "dddddbd"} {
			for script := range allScripts(5) {
				x := made(t, 0, room)
				for i, letter := range []byte(first + script) {
					act(t, x, letter, i+1)
				}
				x.unwind(t)
			}
		}
	}
}

// Long scripts by chance, some with many Dos, some that go to and fro, with room of all kinds.
func TestP17_1To4LongScripts(t *testing.T) {
	t.Parallel()
	rng := rand.New(rand.NewSource(1717))
	for _, letters := range []string{calls, "dddddurbe", "duuurrr", "ddbe", "ddddddddddddddbeef", "dduuuurrrrbe", "bdddeu"} {
		for _, room := range []int{0, 1, 2, 3, 7, 8, 9, 64, 1000, most} {
			x := made(t, 0, room)
			for i := range 1500 {
				act(t, x, letters[rng.Intn(len(letters))], i+1)
				if i%(1+room/16) == 0 {
					x.hold(t)
				}
			}
			x.unwind(t)
		}
	}
}

// Scripts of two pasts at one time: neither sees what is done to the other.
func TestR9PastsStandApart(t *testing.T) {
	rng := rand.New(rand.NewSource(71))
	for range 50 {
		x, y := made(t, 1, 3), made(t, 1, 3)
		for i := range 60 {
			act(t, x, calls[rng.Intn(len(calls))], i+1)
			y.hold(t)
			act(t, y, calls[rng.Intn(len(calls))], -i-1)
			x.hold(t)
		}
		x.unwind(t)
		y.unwind(t)
	}
}

// Calls that are refused, one behind the other in any number, change nothing: a past that got them does as one that didn't.
func TestR4AndP17_1ErrorsChangeNothing(t *testing.T) {
	for _, script := range []string{"", "d", "dd", "ddd", "dddd", "du", "dduu", "dddu", "ddduu", "dddddduuu", "b", "db", "dub", "ddub", "bd", "dbd", "dddbd", "ddubd", "dddubdd", "bde", "dube", "dubde", "dddf", "dduf", "dufb"} {
		for _, room := range []int{0, 1, 2, 3, 9} {
			x := made(t, 0, room)
			for i := range len(script) {
				refuseAll(t, x)
				act(t, x, script[i], i+1)
			}
			refuseAll(t, x)
			x.unwind(t)
			refuseAll(t, x)
			x.unwind(t)
		}
	}
}

// refuseAll does each call to which the past has only an error to answer, several times.
func refuseAll(t testing.TB, x *pair[int]) {
	t.Helper()
	back, again := x.want.lists()
	for range 3 {
		if x.want.open {
			for _, err := range []api.Errno{x.undo(t), x.redo(t)} {
				x.same(t, err, api.ErrOpen)
			}
			x.begin(t, "refused")
			x.forget(t)
			x.hold(t)
			continue
		}
		x.end(t)
		if len(back) == 0 {
			x.same(t, x.undo(t), api.ErrPast)
		}
		if len(again) == 0 {
			x.same(t, x.redo(t), api.ErrPast)
		}
		x.hold(t)
	}
}

// What a past answers goes by its own calls alone, not by what was called in between of others, nor by how often it is asked.
func TestR9SameScriptSameAnswers(t *testing.T) {
	var told [2][]string
	for i := range told {
		x := made(t, 0, 3)
		for j, letter := range []byte("dddduurbddeuurrfdbeu") {
			act(t, x, letter, j+1)
			for range 1 + 5*i {
				x.p.Now()
				x.p.Words()
			}
			back, again := x.p.Words()
			told[i] = append(told[i], fmt.Sprint(x.p.Now(), back, again))
		}
	}
	if a, b := strings.Join(told[0], "\n"), strings.Join(told[1], "\n"); a != b {
		t.Errorf("one time\n%s\nthe other time\n%s", a, b)
	}
}
