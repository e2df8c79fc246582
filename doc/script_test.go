package doc_test

import (
	"fmt"
	"math/rand"
	"testing"

	"galley/api"
	"galley/delta"
	"galley/rule"
)

// act does one call, by its letter; the number makes calls of one letter differ.
func act(t testing.TB, x *pair, letter byte, i int) {
	t.Helper()
	n := len(x.want.text)
	switch letter {
	case 'e': // an edit that moves marks, and drops a range
		x.edit(t, api.Exact, by(api.Bytes, min(1, n), min(2, n), fmt.Sprint(i)))
	case 'n': // an edit that does nothing
		x.edit(t, api.Exact, by(api.Runes, 0, 0, ""))
	case ' ': // no edits
		x.edit(t, api.Exact)
	case 'a':
		x.apply(t, api.Delta{put(fmt.Sprint(i)), keep(n)})
	case 'k': // a delta that keeps all
		if n > 0 {
			x.apply(t, api.Delta{keep(n)})
		} else {
			x.apply(t, nil)
		}
	case 'u':
		x.undo(t)
	case 'r':
		x.redo(t)
	case 'b':
		x.begin(t)
	case 'd':
		x.end(t)
	case 'm':
		x.mark(t, fmt.Sprint(i%3), api.Bytes, min(i, n), gravities[i%2], api.Down)
		x.ranged(t, fmt.Sprint(i%3), api.Bytes, min(1, n), n, gravities[i%2], gravities[i/2%2], api.Up)
	case 'x':
		x.unmark(t, fmt.Sprint(i%3))
		x.unrange(t, fmt.Sprint((i+1)%3))
	}
}

// scripts calls f with each script of n letters.
func scripts(letters string, n int, f func(script []byte)) {
	script := make([]byte, n)
	var fill func(i int)
	fill = func(i int) {
		if i == n {
			f(script)
			return
		}
		for _, script[i] = range []byte(letters) {
			fill(i + 1)
		}
	}
	fill(0)
}

// All short scripts, with room for none up to three, from a document in which nothing was done.
func TestP18_1To9EveryShortScript(t *testing.T) {
	t.Parallel()
	for room := range 4 {
		t.Run(fmt.Sprint("room for ", room), func(t *testing.T) {
			t.Parallel()
			scripts("eurbdm", 6, func(script []byte) {
				x := made(t, "ab", room)
				for i, letter := range script {
					act(t, x, letter, i)
				}
				x.hold(t)
				x.unwind(t)
			})
		})
	}
}

// All short scripts with more kinds of calls, from documents with steps on both sides, and in groups; all is held behind each call.
func TestP18_1To9EveryScriptFromHere(t *testing.T) {
	t.Parallel()
	for _, begin := range []string{"", "memeu", "meemebeexeduu", "emeeub", "meeubme"} {
		for _, room := range []int{1, 3} {
			t.Run(fmt.Sprint(begin, " with room for ", room), func(t *testing.T) {
				t.Parallel()
				scripts("en aku"+"rbdmx", 3, func(script []byte) {
					x := made(t, "a\u20ac", room)
					for i, letter := range append([]byte(begin), script...) {
						act(t, x, letter, i)
						x.hold(t)
					}
					x.unwind(t)
				})
			})
		}
	}
}

// Long scripts by chance, with arguments that are often wrong: all is held behind each call.
func TestP18_1To9LongScripts(t *testing.T) {
	t.Parallel()
	for seed := range int64(40) {
		t.Run(fmt.Sprint(seed), func(t *testing.T) {
			t.Parallel()
			rng := rand.New(rand.NewSource(1800 + seed))
			text := someTexts[rng.Intn(len(someTexts))]
			if seed%4 == 0 {
				for len(text) < 6000 {
					text += pieces[rng.Intn(len(pieces))]
				}
			}
			x := made(t, text, []int{0, 1, 2, 5, 30}[rng.Intn(5)])
			for range 400 {
				byChance(t, rng, x)
				x.hold(t)
			}
			x.unwind(t)
		})
	}
}

// byChance does one call; errors are frequent, but not the rule.
func byChance(t testing.TB, rng *rand.Rand, x *pair) {
	t.Helper()
	u, mode := api.Ruler(1+rng.Intn(3)), api.Mode(1+rng.Intn(3))
	if rng.Intn(30) == 0 {
		u = 4
	}
	if rng.Intn(30) == 0 {
		mode = 0
	}
	size, _ := rule.Size([]byte(x.want.text), u)
	place := func() int { return rng.Intn(size+3) - 1 }
	name := func() string { return []string{"", "a", "b", "c", "d", "\xff"}[rng.Intn(6)] }
	gravity := func() api.Gravity { return api.Gravity(rng.Intn(13) % 3) }
	switch rng.Intn(16) {
	case 0, 1, 2:
		x.edit(t, mode, editsByChance(rng, x.want.text, rng.Intn(4))...)
	case 3:
		x.edit(t, mode, by(u, place(), place(), "\u20ac"))
	case 4, 5:
		x.apply(t, deltaByChance(rng, len(x.want.text)))
	case 6, 7, 8:
		x.undo(t)
	case 9, 10:
		x.redo(t)
	case 11:
		x.begin(t)
	case 12:
		x.end(t)
	case 13:
		x.mark(t, name(), u, place(), gravity(), mode)
		x.ranged(t, name(), u, place(), place(), gravity(), gravity(), mode)
	case 14:
		x.mark(t, name(), u, place(), api.Left, api.Down)
		x.ranged(t, name(), u, 0, size, api.Right, api.Left, api.Up)
	case 15:
		x.unmark(t, name())
		x.unrange(t, name())
		x.marked(t, name(), u)
	}
}

// deltaByChance is a delta of about n bytes: most often a canonical one that fits.
func deltaByChance(rng *rand.Rand, n int) api.Delta {
	if rng.Intn(8) == 0 {
		n++
	}
	var d api.Delta
	for at := 0; at < n; {
		size := min(1+rng.Intn(n/3+2), n-at)
		switch rng.Intn(4) {
		case 0:
			d = append(d, drop(size))
			at += size
		case 1:
			d = append(d, put(pieces[rng.Intn(len(pieces))]))
		default:
			d = append(d, keep(size))
			at += size
		}
	}
	d = append(d, put(pieces[rng.Intn(len(pieces))]))
	if rng.Intn(8) == 0 {
		return d
	}
	d, _ = delta.Canon(d)
	return d
}
