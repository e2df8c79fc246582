package walk_test

import (
	"bytes"
	"fmt"
	"math/rand"
	"slices"
	"sync"
	"testing"

	"galley/api"
	"galley/lines"
	"galley/rope"
	"galley/seek"
	"galley/step"
	"galley/units"
	"galley/walk"
)

// exampleText is the chapter's text.
const exampleText = "a\xf0\x9f\x98\x80\r\n\x82"

// exampleRope is the chapter's rope: an encoding and a CR LF lie over the joints of what was put together.
func exampleRope(t testing.TB) *rope.Rope {
	r := made(t, []byte("a\xf0"))
	for _, piece := range []string{"\x9f\x98", "\x80\r", "\n\x82"} {
		r = join(t, r, made(t, []byte(piece)))
	}
	return r
}

var (
	letterA = api.Step{Rune: 'a', Width: 1, Whole: true}
	face    = api.Step{Rune: 0x1F600, Width: 4, Whole: true}
	cr      = api.Step{Rune: '\r', Width: 1, Whole: true}
	lf      = api.Step{Rune: '\n', Width: 1, Whole: true}
	bad     = api.Step{Rune: 0xFFFD, Width: 1}
)

func TestP11_1StepsExamples(t *testing.T) {
	r := exampleRope(t)
	all := []given{{0, letterA}, {1, face}, {5, cr}, {6, lf}, {7, bad}}
	for from, want := range map[int][]given{-1: nil, 0: all, 1: all[1:], 2: all[1:], 3: all[1:], 4: all[1:], 5: all[2:], 6: all[3:], 7: all[4:], 8: nil, 9: nil} {
		if got := taken(walk.Steps(r, from), -1); !slices.Equal(got, want) {
			t.Errorf("Steps(%d): %v, want %v", from, got, want)
		}
	}
	back := []given{{7, bad}, {6, lf}, {5, cr}, {1, face}, {0, letterA}}
	for from, want := range map[int][]given{-1: nil, 0: nil, 1: back[4:], 2: back[4:], 3: back[4:], 4: back[4:], 5: back[3:], 6: back[2:], 7: back[1:], 8: back, 9: nil} {
		if got := taken(walk.Back(r, from), -1); !slices.Equal(got, want) {
			t.Errorf("Back(%d): %v, want %v", from, got, want)
		}
	}
}

func TestP11_1UnitsExamples(t *testing.T) {
	var got []uint16
	for p, u := range walk.Units(exampleRope(t)) {
		if p != len(got) {
			t.Errorf("the unit %x has the place %d", u, p)
		}
		got = append(got, u)
	}
	if want := []uint16{0x61, 0xD83D, 0xDE00, 0x0D, 0x0A, 0xFFFD}; !slices.Equal(got, want) {
		t.Errorf("Units: %x, want %x", got, want)
	}
}

func TestP11_1LinesExamples(t *testing.T) {
	r := exampleRope(t)
	for from, want := range map[int][]string{-1: nil, 0: {"a\xf0\x9f\x98\x80", "\x82"}, 1: {"\x82"}, 2: nil} {
		var got []string
		for k, content := range walk.Lines(r, from) {
			if k != from+len(got) {
				t.Errorf("Lines(%d): %q has the number %d", from, content, k)
			}
			got = append(got, string(content))
		}
		if !slices.Equal(got, want) {
			t.Errorf("Lines(%d): %q, want %q", from, got, want)
		}
	}
}

// A nil rope is read as one without bytes: it has no step and no unit, and one line.
func TestP11_1NilAndEmptyRopes(t *testing.T) {
	nothing := modelOf(nil)
	var none *rope.Rope
	_, split0 := split(t, made(t, []byte("ab")), 2)
	for _, r := range []*rope.Rope{none, made(t, nil), split0, replace(t, made(t, steps(5000, 1)), 0, 5000, nil)} {
		nothing.holdAll(t, r, manyPlaces)
		nothing.holdLines(t, r, 0)
		nothing.holdLines(t, r, 1)
	}
}

// No iterator is nil, whatever is handed in.
func TestR8NoNilIterators(t *testing.T) {
	var none *rope.Rope
	for _, r := range []*rope.Rope{none, made(t, nil), exampleRope(t)} {
		if walk.Units(r) == nil {
			t.Error("Units is nil")
		}
		for _, from := range append(outside(8), 0, 1, 8) {
			if walk.Steps(r, from) == nil || walk.Back(r, from) == nil || walk.Lines(r, from) == nil {
				t.Errorf("from %d: nil", from)
			}
		}
	}
}

func TestP11_1EveryShortText(t *testing.T) {
	t.Parallel()
	for n := range 6 {
		texts(n, leastBytes, func(b []byte) { modelOf(b).holdAll(t, made(t, b), manyPlaces) })
	}
}

func TestP11_1EveryTwoPieces(t *testing.T) {
	t.Parallel()
	for _, one := range pieces {
		for _, other := range pieces {
			modelOf([]byte(one+other)).holdAll(t, join(t, made(t, []byte(one)), made(t, []byte(other))), manyPlaces)
		}
	}
}

func TestP11_1LongTexts(t *testing.T) {
	t.Parallel()
	longTexts(func(name string, b []byte) {
		t.Run(name, func(t *testing.T) {
			t.Parallel()
			modelOf(b).holdAll(t, made(t, b), fewPlaces)
		})
	})
}

// lineTexts are texts whose lines are of unlike lengths.
func lineTexts() map[string][]byte {
	long := bytes.Repeat([]byte("x\u20ac\U0001F600\xe2\x82"), 1200)
	all := map[string][]byte{
		"no line end":                    long,
		"nothing behind the last":        slices.Concat(long, []byte("\n")),
		"nothing behind the last, CR LF": slices.Concat(long, []byte("\r\n")),
		"nothing behind the last, CR":    slices.Concat(long, []byte("\r")),
		"long lines":                     slices.Concat(long, []byte("\r\n"), long, []byte("\n"), long),
		"a long one among lines of none": slices.Concat(bytes.Repeat([]byte("\n"), 700), long, bytes.Repeat([]byte("\r"), 700)),
		"LF alone":                       bytes.Repeat([]byte("\n"), 5000),
		"CR alone":                       bytes.Repeat([]byte("\r"), 5000),
		"CR LF alone":                    bytes.Repeat([]byte("\r\n"), 2600),
		"LF CR alone":                    bytes.Repeat([]byte("\n\r"), 2600),
		"CR CR LF alone":                 bytes.Repeat([]byte("\r\r\n"), 1800),
		"bad bytes in lines":             bytes.Repeat([]byte("\xe2\x82\n\xf0\x9f\x98\r\x80\x80\r\n"), 500),
	}
	for n := 4090; n < 4100; n++ {
		all[fmt.Sprint("CR LF behind ", n)] = slices.Concat(bytes.Repeat([]byte("y"), n), []byte("\r\n\U0001F600"), bytes.Repeat([]byte("y"), n), []byte("\r"))
	}
	return all
}

func TestP11_1Lines(t *testing.T) {
	t.Parallel()
	for name, b := range lineTexts() {
		t.Run(name, func(t *testing.T) {
			t.Parallel()
			m := modelOf(b)
			for _, r := range []*rope.Rope{made(t, b), ways[5].make(t, b), ways[6].make(t, b)} {
				for _, k := range append(manyPlaces(len(m.lines)-1), outside(len(m.lines)-1)...) {
					m.holdLines(t, r, k)
				}
			}
		})
	}
}

// Every place of a text of several leaves.
func TestP11_1EveryPlace(t *testing.T) {
	t.Parallel()
	b := slices.Concat(steps(4093, 1), bytes.Repeat([]byte("\U0001F600\r\n"), 60), mixed(1500, 2, leastBytes))
	m := modelOf(b)
	ahead, back := m.ahead(0), m.back(len(b))
	for _, w := range []way{ways[0], ways[5]} {
		t.Run(w.name, func(t *testing.T) {
			t.Parallel()
			r := w.make(t, b)
			for p := range len(b) + 1 {
				i := m.floor(p)
				if got, want := taken(walk.Steps(r, p), 5), upTo(ahead[i:], 5); !slices.Equal(got, want) {
					t.Fatalf("Steps(%d): %s", p, unlike(got, want))
				}
				if got, want := taken(walk.Back(r, p), 5), upTo(back[len(back)-i:], 5); !slices.Equal(got, want) {
					t.Fatalf("Back(%d): %s", p, unlike(got, want))
				}
			}
			for k := range m.lines {
				for n, content := range walk.Lines(r, k) {
					if n != k || !bytes.Equal(content, m.lines[k]) {
						t.Fatalf("Lines(%d): %d %s", k, n, short(content))
					}
					break
				}
			}
		})
	}
}

// What is told hangs on the bytes alone: whatever calls a rope was made by.
func TestP11_4Ways(t *testing.T) {
	t.Parallel()
	few := [][]byte{nil, []byte(exampleText), []byte("\r\n\r\n\n\r\r"), []byte("\xf0\x9f\x98\xf0\x9f\x98\x80\x80")}
	long := [][]byte{steps(1500, 3), steps(4097, 4), mixed(5000, 5, leastBytes), mixed(4200, 6, badBytes), bytes.Repeat([]byte("\U0001F600\r\n"), 700), bytes.Repeat([]byte("\r\n"), 2100), bytes.Repeat([]byte("\u20ac"), 1400)}
	for _, w := range ways {
		t.Run(w.name, func(t *testing.T) {
			t.Parallel()
			for _, b := range few {
				modelOf(b).holdAll(t, w.make(t, b), manyPlaces)
			}
			for _, b := range long {
				modelOf(b).holdAll(t, w.make(t, b), fewPlaces)
			}
		})
	}
}

// Ropes that are joined at each place of an encoding or a line end, long enough to lie in leaves of their own; and with a short one between two joints.
func TestP11_4Joints(t *testing.T) {
	t.Parallel()
	side := bytes.Repeat([]byte("z"), 4096)
	for _, piece := range []string{"\u00e9", "\u20ac", "\U0001F600", "\r\n", "\r\r\n\n", "\xe2\x82", "\xf0\x9f\x98\xf0\x9f\x98\x80", "\r\U0001F600\n", "\u20ac\r\n\u20ac", "\xf0\x9f\x98\r\n\x80"} {
		b := slices.Concat(side, []byte(piece), side)
		m := modelOf(b)
		for cut := range len(piece) + 1 {
			for other := range len(piece) + 1 - cut {
				one, two := len(side)+cut, len(side)+cut+other
				r := join(t, join(t, made(t, b[:one]), made(t, b[one:two])), made(t, b[two:]))
				for p := len(side) - 2; p <= len(side)+len(piece)+2; p++ {
					m.holdSteps(t, r, p)
					m.holdBack(t, r, p)
				}
				m.holdUnits(t, r)
				for k := range len(m.lines) + 1 {
					m.holdLines(t, r, k)
				}
			}
		}
	}
}

// Ropes that come out of long rows of calls.
func TestP11_4Scripts(t *testing.T) {
	t.Parallel()
	for seed := range int64(4) {
		rng := rand.New(rand.NewSource(seed))
		var s scripts
		for _, b := range [][]byte{nil, []byte("\xf0\x9f\x98\x80\r\n"), steps(3000, seed), bytes.Repeat([]byte("\r\n\u20ac"), 900)} {
			s.add(made(t, b), b)
		}
		for range 400 {
			s.call(t, rng, 12000)
		}
		for i := len(s.ropes) - 1; i >= 0; i -= 1 + rng.Intn(20) {
			modelOf(s.texts[i]).holdAll(t, s.ropes[i], somePlaces(rng))
		}
	}
}

// somePlaces are few places by chance, with both ends.
func somePlaces(rng *rand.Rand) func(n int) []int {
	return func(n int) []int {
		places := []int{0, n}
		for range 6 {
			places = append(places, rng.Intn(n+1))
		}
		return places
	}
}

// What is given is what layers 2, 3 and 7 tell of the rope's bytes.
func TestP11_2LowerLayers(t *testing.T) {
	t.Parallel()
	hold := func(b []byte) {
		for _, r := range []*rope.Rope{made(t, b), ways[6].make(t, b)} {
			if got, want := taken(walk.Steps(r, 0), -1), taken(step.All(b), -1); !slices.Equal(got, want) {
				t.Fatalf("%s: Steps: %s", short(b), unlike(got, want))
			}
			if got, want := taken(walk.Back(r, len(b)), -1), taken(step.Back(b), -1); !slices.Equal(got, want) {
				t.Fatalf("%s: Back: %s", short(b), unlike(got, want))
			}
			var seen []uint16
			for _, u := range walk.Units(r) {
				seen = append(seen, u)
			}
			if want := units.To(b); !slices.Equal(seen, want) || len(seen) != r.Weld().Sizes.Units {
				t.Fatalf("%s: Units: %s; the size is %d", short(b), unlike(seen, want), r.Weld().Sizes.Units)
			}
			n := 0
			for k, got := range walk.Lines(r, 0) {
				start, content, _, err := lines.Line(b, n)
				if k != n || err != api.OK || !bytes.Equal(got, b[start:content]) {
					t.Fatalf("%s: Lines: %d is %s, %d", short(b), k, short(got), err)
				}
				n++
			}
			if n != lines.Count(b) {
				t.Fatalf("%s: %d lines, want %d", short(b), n, lines.Count(b))
			}
		}
	}
	fewTexts(hold)
	for _, b := range [][]byte{steps(9000, 21), mixed(5000, 22, leastBytes), mixed(5000, 23, badBytes), bytes.Repeat([]byte("\r\n"), 900)} {
		hold(b)
	}
}

// Steps and Back from one edge, put together, are all steps; from a place inside both go from the same edge.
func TestP11_2BothSides(t *testing.T) {
	t.Parallel()
	hold := func(b []byte, some func(int) []int) {
		r := ways[5].make(t, b)
		all := taken(step.All(b), -1)
		for _, p := range some(len(b)) {
			both := taken(walk.Back(r, p), -1)
			slices.Reverse(both)
			both = append(both, taken(walk.Steps(r, p), -1)...)
			if !slices.Equal(both, all) {
				t.Fatalf("%s at %d: %s", short(b), p, unlike(both, all))
			}
		}
	}
	fewTexts(func(b []byte) { hold(b, manyPlaces) })
	for _, b := range [][]byte{steps(9000, 31), mixed(5000, 32, leastBytes), bytes.Repeat([]byte("\U0001F600"), 2100)} {
		hold(b, manyPlaces)
	}
}

// Who stops early gets no more, and what was given until then is the same.
func TestR8StoppedEarly(t *testing.T) {
	t.Parallel()
	b := slices.Concat([]byte(exampleText), steps(9000, 41))
	m := modelOf(b)
	ahead, back := m.ahead(0), m.back(len(b))
	r := made(t, b)
	stops := append(manyPlaces(len(ahead)-1), 5, 6, 7)
	for _, n := range stops {
		n = max(1, n)
		calls := 0
		got := []given(nil)
		stop := func(p int, s api.Step) bool {
			calls++
			got = append(got, given{p, s})
			return calls < n
		}
		walk.Steps(r, 0)(stop)
		if calls != n || !slices.Equal(got, ahead[:n]) {
			t.Fatalf("Steps that are stopped at %d: %d", n, calls)
		}
		calls, got = 0, nil
		walk.Back(r, len(b))(stop)
		if calls != n || !slices.Equal(got, back[:n]) {
			t.Fatalf("Back that is stopped at %d: %d", n, calls)
		}
		calls = 0
		walk.Units(r)(func(p int, u uint16) bool {
			if p != calls || u != m.units[p] {
				t.Fatalf("the unit %d: %d %x", calls, p, u)
			}
			calls++
			return calls < n
		})
		if calls != n {
			t.Fatalf("Units that are stopped at %d: %d", n, calls)
		}
	}
	for n := 1; n < len(m.lines); n += 1 + n/7 {
		calls := 0
		walk.Lines(r, 0)(func(k int, content []byte) bool {
			if k != calls || !bytes.Equal(content, m.lines[k]) {
				t.Fatalf("the line %d: %d %s", calls, k, short(content))
			}
			calls++
			return calls < n
		})
		if calls != n {
			t.Fatalf("Lines that are stopped at %d: %d", n, calls)
		}
	}
}

// A pair's two halves: one may stop between them, and behind them.
func TestR8StoppedWithinAPair(t *testing.T) {
	r := made(t, []byte("\U0001F600\U0001F601"))
	want := []uint16{0xD83D, 0xDE00, 0xD83D, 0xDE01}
	for n := 1; n <= 4; n++ {
		var got []uint16
		walk.Units(r)(func(p int, u uint16) bool {
			got = append(got, u)
			return len(got) < n
		})
		if !slices.Equal(got, want[:n]) {
			t.Errorf("Units that are stopped at %d: %x", n, got)
		}
	}
}

// The same iterators, gone over again, also behind a stop, give the same.
func TestR8GoneOverAgain(t *testing.T) {
	t.Parallel()
	for _, b := range [][]byte{nil, []byte(exampleText), steps(9000, 51)} {
		m := modelOf(b)
		r := made(t, b)
		ahead, back := walk.Steps(r, len(b)/3), walk.Back(r, len(b)/3*2)
		seen, rows := walk.Units(r), walk.Lines(r, 1)
		for range 3 {
			taken(ahead, 2)
			taken(back, 3)
			for range seen {
				break
			}
			for range rows {
				break
			}
			if got, want := taken(ahead, -1), m.ahead(len(b)/3); !slices.Equal(got, want) {
				t.Fatalf("%s: Steps: %s", short(b), unlike(got, want))
			}
			if got, want := taken(back, -1), m.back(len(b)/3*2); !slices.Equal(got, want) {
				t.Fatalf("%s: Back: %s", short(b), unlike(got, want))
			}
			n := 0
			for p, u := range seen {
				if p != n || u != m.units[n] {
					t.Fatalf("%s: the unit %d is %d %x", short(b), n, p, u)
				}
				n++
			}
			if n != len(m.units) {
				t.Fatalf("%s: %d units, want %d", short(b), n, len(m.units))
			}
			k := 1
			for number, content := range rows {
				if number != k || !bytes.Equal(content, m.lines[k]) {
					t.Fatalf("%s: the line %d is %d %s", short(b), k, number, short(content))
				}
				k++
			}
			if k != max(1, len(m.lines)) {
				t.Fatalf("%s: Lines ended ahead of %d of %d", short(b), k, len(m.lines))
			}
		}
	}
}

// Iterators within one another, the same one too.
func TestR8WithinOneAnother(t *testing.T) {
	b := []byte(exampleText + "\n\u20ac\xff")
	m := modelOf(b)
	r := ways[2].make(t, b)
	seq, back, rows, seen := walk.Steps(r, 0), walk.Back(r, len(b)), walk.Lines(r, 0), walk.Units(r)
	outer := 0
	for p, s := range seq {
		if m.edges[outer].bytes != p || m.steps[outer] != s {
			t.Fatalf("the step %d: %d %+v", outer, p, s)
		}
		outer++
		if !slices.Equal(taken(seq, -1), m.ahead(0)) || !slices.Equal(taken(back, -1), m.back(len(b))) {
			t.Fatalf("within the step %d: others", outer)
		}
		for k, content := range rows {
			n := 0
			for range rows {
				n++
			}
			for range seen {
				n++
			}
			if n != len(m.lines)+len(m.units) || !bytes.Equal(content, m.lines[k]) {
				t.Fatalf("within the line %d: %d, %q", k, n, content)
			}
		}
	}
	if outer != len(m.steps) {
		t.Fatalf("%d steps, want %d", outer, len(m.steps))
	}
}

// spoil writes over bytes, spare room too.
func spoil(b []byte) {
	b = b[:cap(b)]
	for i := range b {
		b[i] = '\n'
	}
}

// Contents are new memory, each time: who writes over them changes no rope and no other content.
func TestR6ContentsAreNew(t *testing.T) {
	t.Parallel()
	for name, b := range lineTexts() {
		m := modelOf(b)
		r := ways[5].make(t, b)
		rows := walk.Lines(r, 0)
		var kept [][]byte
		for k, content := range rows {
			if !bytes.Equal(content, m.lines[k]) {
				t.Fatalf("%s: the line %d is %s", name, k, short(content))
			}
			spoil(content)
		}
		for _, content := range rows {
			kept = append(kept, content)
		}
		for k := range kept {
			if !bytes.Equal(kept[k], m.lines[k]) {
				t.Fatalf("%s: again, the line %d is %s", name, k, short(kept[k]))
			}
			spoil(kept[k])
		}
		if !bytes.Equal(textOf(t, r), b) {
			t.Fatalf("%s: the rope was changed", name)
		}
	}
}

// An iterator gives what its rope has, whatever was done since with the bytes of which it was made, and with other ropes.
func TestR8WhateverWasDone(t *testing.T) {
	b := steps(9000, 61)
	m := modelOf(b)
	mine := slices.Clone(b)
	r := made(t, mine)
	ahead, back, rows := walk.Steps(r, 0), walk.Back(r, len(b)), walk.Lines(r, 2)
	spoil(mine)
	_ = replace(t, r, 0, 9000, []byte("x"))
	first, others := split(t, r, 4000)
	_ = join(t, others, first)
	if got, want := taken(ahead, -1), m.ahead(0); !slices.Equal(got, want) {
		t.Errorf("Steps: %s", unlike(got, want))
	}
	if got, want := taken(back, -1), m.back(len(b)); !slices.Equal(got, want) {
		t.Errorf("Back: %s", unlike(got, want))
	}
	k := 2
	for n, content := range rows {
		if n != k || !bytes.Equal(content, m.lines[k]) {
			t.Fatalf("the line %d is %d %s", k, n, short(content))
		}
		k++
	}
}

// Of a text as great as one may be, a few steps and lines anywhere are told without going through all of it.
func TestP11_1GreatTexts(t *testing.T) {
	t.Parallel()
	b := []byte("a\U0001F600\r\n\xe2\x82x\n\u20ac\xff\r\r\n\n")
	m := modelOf(b)
	times := 0
	for len(b)<<(times+1) <= api.MaxText {
		times++
	}
	r := doubled(t, b, times)
	end := len(b) << times
	all, perLines := m.ahead(0), len(m.lines)-1
	for _, i := range []int{0, 1, 1 << 10, 1<<times - 100, 1 << (times - 1)} {
		for p := range len(b) {
			n := 0
			for place, s := range walk.Steps(r, i*len(b)+p) {
				want := all[(m.floor(p)+n)%len(all)]
				copies := i + (m.floor(p)+n)/len(all)
				if place != copies*len(b)+want.place || s != want.step {
					t.Fatalf("Steps(%d), %d: %d %+v", i*len(b)+p, n, place, s)
				}
				if n++; n == 40 {
					break
				}
			}
		}
		n := 0
		for k, content := range walk.Lines(r, i*perLines) {
			if k != i*perLines+n || !bytes.Equal(content, m.lines[n%perLines]) {
				t.Fatalf("Lines(%d), %d: %d %q", i*perLines, n, k, content)
			}
			if n++; n == 40 {
				break
			}
		}
	}
	back, n := m.back(len(b)), 0
	for place, s := range walk.Back(r, end) {
		want := back[n%len(back)]
		if place != end-len(b)*(n/len(back)+1)+want.place || s != want.step {
			t.Fatalf("Back, %d: %d %+v", n, place, s)
		}
		if n++; n == 9000 {
			break
		}
	}
	if got := taken(walk.Steps(r, end), 1); got != nil {
		t.Errorf("Steps from the end: %v", got)
	}
	for k, content := range walk.Lines(r, perLines<<times) {
		if k != perLines<<times || len(content) != 0 {
			t.Errorf("the last line: %d %s", k, short(content))
		}
	}
	for range walk.Lines(r, perLines<<times+1) {
		t.Error("a line behind the last one")
	}
}

// One line of many bytes, and many lines of none, are gone over in a time that grows as they do.
func TestP11_1Many(t *testing.T) {
	t.Parallel()
	r := doubled(t, []byte("\U0001F600"), 20)
	n := 0
	for p, s := range walk.Steps(r, 0) {
		if p != 4*n || s != face {
			t.Fatalf("the step %d: %d %+v", n, p, s)
		}
		n++
	}
	for p, s := range walk.Back(r, r.Len()) {
		n--
		if p != 4*n || s != face {
			t.Fatalf("the step %d, backwards: %d %+v", n, p, s)
		}
	}
	if n != 0 {
		t.Fatalf("%d steps were not gone over backwards", n)
	}
	for k, content := range walk.Lines(r, 0) {
		if k != 0 || !bytes.Equal(content, textOf(t, r)) {
			t.Fatalf("the line %d: %s", k, short(content))
		}
	}
	r = doubled(t, []byte("\n\r"), 20)
	for k, content := range walk.Lines(r, 0) {
		if k != n || len(content) != 0 {
			t.Fatalf("the line %d: %d %s", n, k, short(content))
		}
		n++
	}
	if n != 1<<20+2 {
		t.Fatalf("%d lines", n)
	}
}

// Several may go over one rope at one time.
func TestP11_4AtOneTime(t *testing.T) {
	t.Parallel()
	b := steps(9000, 71)
	m := modelOf(b)
	r := ways[5].make(t, b)
	ahead, rows := walk.Steps(r, 0), walk.Lines(r, 0)
	var all sync.WaitGroup
	for range 8 {
		all.Go(func() {
			if !slices.Equal(taken(ahead, -1), m.ahead(0)) {
				t.Error("Steps: others")
			}
			for k, content := range rows {
				if !bytes.Equal(content, m.lines[k]) {
					t.Errorf("the line %d: others", k)
				}
				spoil(content)
			}
		})
	}
	all.Wait()
}

// Where a step begins and where a line's content lies is what seek tells.
func TestP11_4Seek(t *testing.T) {
	t.Parallel()
	for _, b := range [][]byte{[]byte(exampleText), steps(5000, 81), bytes.Repeat([]byte("\U0001F600\r\n"), 800)} {
		r := ways[6].make(t, b)
		for p, s := range walk.Steps(r, 0) {
			for inside := p; inside < p+s.Width; inside++ {
				if at, want, err := seek.Step(r, inside); at != p || want != s || err != api.OK {
					t.Fatalf("%s: the step at %d is %+v, seek says %d %+v, %d", short(b), p, s, at, want, err)
				}
			}
		}
		for k, content := range walk.Lines(r, 0) {
			start, end, _, err := seek.Line(r, k)
			want, _ := r.Bytes(start, end)
			if err != api.OK || !bytes.Equal(content, want) {
				t.Fatalf("%s: the line %d is %s, %d", short(b), k, short(content), err)
			}
		}
	}
}
