package walk_test

import (
	"bytes"
	"math/rand"
	"slices"
	"testing"

	"galley/api"
	"galley/rope"
	"galley/seek"
	"galley/walk"
)

// cursorAt is a cursor at a place that there is.
func cursorAt(t testing.TB, r *rope.Rope, place int) *walk.Cursor {
	t.Helper()
	c, err := walk.New(r, place)
	if c == nil || err != api.OK {
		t.Fatalf("New(%d) of %d bytes: %v, %d", place, r.Len(), c, err)
	}
	return c
}

// A pair is a cursor beside the model's: the number of the edge at which it must stand.
type pair struct {
	m *model
	c *walk.Cursor
	i int
}

func pairAt(t testing.TB, m *model, r *rope.Rope, place int) *pair {
	t.Helper()
	p := &pair{m, cursorAt(t, r, place), m.floor(place)}
	p.place(t)
	return p
}

// place: it stands where it must, by every ruler.
func (p *pair) place(t testing.TB) {
	t.Helper()
	for _, u := range rulers {
		if got, err := p.c.Place(u); got != p.m.edges[p.i].by(u) || err != api.OK {
			t.Fatalf("%s: Place(%d): %d, %d, want %d", short(p.m.b), u, got, err, p.m.edges[p.i].by(u))
		}
	}
}

// at: it stands where it must, by bytes; quicker than place.
func (p *pair) at(t testing.TB) {
	t.Helper()
	if got, err := p.c.Place(api.Bytes); got != p.m.edges[p.i].bytes || err != api.OK {
		t.Fatalf("%s: Place(Bytes): %d, %d, want %d", short(p.m.b), got, err, p.m.edges[p.i].bytes)
	}
}

func (p *pair) next(t testing.TB) bool {
	t.Helper()
	var want api.Step
	more := p.i < len(p.m.steps)
	if more {
		want = p.m.steps[p.i]
		p.i++
	}
	if got, ok := p.c.Next(); got != want || ok != more {
		t.Fatalf("%s: Next to the edge %d: %+v, %v, want %+v, %v", short(p.m.b), p.i, got, ok, want, more)
	}
	p.at(t)
	return more
}

func (p *pair) prev(t testing.TB) bool {
	t.Helper()
	var want api.Step
	more := p.i > 0
	if more {
		p.i--
		want = p.m.steps[p.i]
	}
	if got, ok := p.c.Prev(); got != want || ok != more {
		t.Fatalf("%s: Prev to the edge %d: %+v, %v, want %+v, %v", short(p.m.b), p.i, got, ok, want, more)
	}
	p.at(t)
	return more
}

func (p *pair) skip(t testing.TB, n int) {
	t.Helper()
	was := p.i
	p.i += min(max(n, -was), len(p.m.steps)-was)
	want := max(p.i-was, was-p.i)
	if got := p.c.Skip(n); got != want {
		t.Fatalf("%s: Skip(%d) to the edge %d: %d, want %d", short(p.m.b), n, p.i, got, want)
	}
	p.at(t)
}

// skips are numbers by which a cursor may be asked to go.
var skips = []int{0, 1, -1, 2, -2, 3, -3, 7, -7, 1 << 32, -1 << 32, 1<<32 + 1, -1<<32 + 1, greatest, greatest - 1, least, least + 1}

func TestP11_1CursorExamples(t *testing.T) {
	r := exampleRope(t)
	c := cursorAt(t, r, 4)
	place := func(u api.Ruler, want int) {
		t.Helper()
		if got, err := c.Place(u); got != want || err != api.OK {
			t.Errorf("Place(%d): %d, %d, want %d", u, got, err, want)
		}
	}
	step := func(got api.Step, ok bool) func(api.Step, bool) {
		return func(want api.Step, more bool) {
			t.Helper()
			if got != want || ok != more {
				t.Errorf("%+v, %v, want %+v, %v", got, ok, want, more)
			}
		}
	}
	skip := func(n, want int) {
		t.Helper()
		if got := c.Skip(n); got != want {
			t.Errorf("Skip(%d): %d, want %d", n, got, want)
		}
	}
	place(api.Bytes, 1)
	place(api.Runes, 1)
	place(api.Units, 1)
	step(c.Next())(face, true)
	place(api.Bytes, 5)
	place(api.Units, 3)
	place(api.Runes, 2)
	skip(9, 3)
	step(c.Next())(api.Step{}, false)
	place(api.Bytes, 8)
	step(c.Prev())(bad, true)
	skip(-2, 2)
	place(api.Bytes, 5)
	skip(0, 0)
	place(api.Bytes, 5)
	skip(-9, 2)
	step(c.Prev())(api.Step{}, false)
	place(api.Bytes, 0)
	step(c.Next())(letterA, true)
}

// ErrNil comes ahead of ErrRange, and no cursor is told beside them.
func TestP11_1NewErrors(t *testing.T) {
	for _, p := range append(noPlaces, 0, 1, 8, api.MaxText) {
		if c, err := walk.New(nil, p); c != nil || err != api.ErrNil {
			t.Errorf("New(nil, %d): %v, %d", p, c, err)
		}
	}
	for _, b := range [][]byte{nil, []byte(exampleText), steps(5000, 1)} {
		for _, p := range outside(len(b)) {
			if c, err := walk.New(made(t, b), p); c != nil || err != api.ErrRange {
				t.Errorf("%s: New(%d): %v, %d", short(b), p, c, err)
			}
		}
	}
}

// A nil cursor tells an error ahead of a wrong ruler, and goes nowhere.
func TestP11_1NilCursor(t *testing.T) {
	var c *walk.Cursor
	for _, u := range append(noRulers, rulers...) {
		if got, err := c.Place(u); got != 0 || err != api.ErrNil {
			t.Errorf("Place(%d): %d, %d", u, got, err)
		}
	}
	if s, ok := c.Next(); s != (api.Step{}) || ok {
		t.Errorf("Next: %+v, %v", s, ok)
	}
	if s, ok := c.Prev(); s != (api.Step{}) || ok {
		t.Errorf("Prev: %+v, %v", s, ok)
	}
	for _, n := range skips {
		if got := c.Skip(n); got != 0 {
			t.Errorf("Skip(%d): %d", n, got)
		}
	}
}

func TestP11_1NoRulers(t *testing.T) {
	for _, b := range [][]byte{nil, []byte(exampleText), steps(5000, 2)} {
		for _, place := range []int{0, len(b) / 2, len(b)} {
			p := pairAt(t, modelOf(b), made(t, b), place)
			for _, u := range noRulers {
				if got, err := p.c.Place(u); got != 0 || err != api.ErrRuler {
					t.Errorf("%s: Place(%d): %d, %d", short(b), u, got, err)
				}
			}
			p.place(t)
		}
	}
}

// holdCursor: from some places a cursor goes to and fro as it must, and there it stays where it can't go.
func holdCursor(t testing.TB, m *model, r *rope.Rope, some func(int) []int) {
	t.Helper()
	for _, place := range some(len(m.b)) {
		p := pairAt(t, m, r, place)
		begin := p.i
		if p.next(t) {
			p.place(t)
			p.prev(t)
		}
		if p.prev(t) {
			p.place(t)
			p.next(t)
		}
		if p.i != begin {
			t.Fatalf("%s: from the edge %d one came to %d", short(m.b), begin, p.i)
		}
		for _, n := range skips {
			p := pairAt(t, m, r, place)
			p.skip(t, n)
		}
	}
}

func TestP11_3EveryShortText(t *testing.T) {
	t.Parallel()
	for n := range 5 {
		texts(n, leastBytes, func(b []byte) { holdCursor(t, modelOf(b), made(t, b), manyPlaces) })
	}
	for _, one := range pieces {
		for _, other := range pieces {
			holdCursor(t, modelOf([]byte(one+other)), join(t, made(t, []byte(one)), made(t, []byte(other))), manyPlaces)
		}
	}
}

func TestP11_3LongTexts(t *testing.T) {
	t.Parallel()
	longTexts(func(name string, b []byte) {
		t.Run(name, func(t *testing.T) {
			t.Parallel()
			holdCursor(t, modelOf(b), made(t, b), fewPlaces)
		})
	})
}

func TestP11_4CursorWays(t *testing.T) {
	t.Parallel()
	for _, w := range ways {
		t.Run(w.name, func(t *testing.T) {
			t.Parallel()
			for _, b := range [][]byte{nil, []byte(exampleText), []byte("\xf0\x9f\x98\xf0\x9f\x98\x80\x80")} {
				holdCursor(t, modelOf(b), w.make(t, b), manyPlaces)
			}
			for _, b := range [][]byte{steps(4097, 4), mixed(4200, 6, badBytes), bytes.Repeat([]byte("\U0001F600\r\n"), 700)} {
				holdCursor(t, modelOf(b), w.make(t, b), fewPlaces)
			}
		})
	}
}

// From one end to the other and back, step by step, over several leaves.
func TestP11_3FromEndToEnd(t *testing.T) {
	t.Parallel()
	for _, b := range [][]byte{nil, []byte(exampleText), steps(5000, 11), bytes.Repeat([]byte("\U0001F600"), 1100), mixed(4200, 12, badBytes)} {
		m := modelOf(b)
		for _, w := range []way{ways[0], ways[5]} {
			p := pairAt(t, m, w.make(t, b), 0)
			for p.next(t) {
			}
			if p.i != len(m.steps) {
				t.Fatalf("%s: Next ended at the edge %d", short(b), p.i)
			}
			p.place(t)
			for p.prev(t) {
			}
			p.place(t)
		}
	}
}

// With each Next the place rises by one by runes, by the step's width by bytes, by its units by units; with each Prev it falls so.
func TestP11_3PlacesRise(t *testing.T) {
	t.Parallel()
	for _, b := range [][]byte{[]byte(exampleText), []byte("\xf0\x9f\x98\u20ac\U0010FFFF\ufffd\xff"), steps(1200, 13)} {
		c := cursorAt(t, made(t, b), 0)
		places := func() [3]int {
			var all [3]int
			for i, u := range rulers {
				all[i], _ = c.Place(u)
			}
			return all
		}
		for {
			was := places()
			s, ok := c.Next()
			if !ok {
				break
			}
			is := places()
			units := 1
			if s.Rune > 0xFFFF {
				units = 2
			}
			if is != [3]int{was[0] + s.Width, was[1] + 1, was[2] + units} {
				t.Fatalf("%s: from %v over %+v to %v", short(b), was, s, is)
			}
			if again, ok := c.Prev(); again != s || !ok || places() != was {
				t.Fatalf("%s: back over %+v, %v to %v", short(b), again, ok, places())
			}
			if got := c.Skip(1); got != 1 || places() != is {
				t.Fatalf("%s: Skip(1) is %d, to %v, want %v", short(b), got, places(), is)
			}
		}
	}
}

// Skip leads to where so many Nexts or Prevs lead, and has gone over as many.
func TestP11_3SkipIsNexts(t *testing.T) {
	t.Parallel()
	for _, b := range [][]byte{nil, []byte(exampleText), []byte("\xe2\x82\xe2\x82\xac\xf0\x9f"), steps(60, 14)} {
		r := ways[5].make(t, b)
		for place := range len(b) + 1 {
			for n := -len(b) - 2; n <= len(b)+2; n++ {
				one, other := cursorAt(t, r, place), cursorAt(t, r, place)
				gone := 0
				for range max(n, -n) {
					move := other.Next
					if n < 0 {
						move = other.Prev
					}
					if _, ok := move(); ok {
						gone++
					}
				}
				got := one.Skip(n)
				here, _ := one.Place(api.Bytes)
				there, _ := other.Place(api.Bytes)
				if got != gone || here != there {
					t.Fatalf("%s: from %d Skip(%d) is %d, to %d, want %d, to %d", short(b), place, n, got, here, gone, there)
				}
			}
		}
	}
}

// Cursors by chance, several on one rope: none touches another one, nor the rope.
func TestP11_4SeveralCursors(t *testing.T) {
	t.Parallel()
	for seed := range int64(6) {
		rng := rand.New(rand.NewSource(seed))
		b := slices.Concat([]byte(exampleText), steps(rng.Intn(9000), seed), bytes.Repeat([]byte("\U0001F600"), 30))
		m := modelOf(b)
		r := ways[rng.Intn(len(ways))].make(t, b)
		var all []*pair
		for range 5 {
			all = append(all, pairAt(t, m, r, rng.Intn(len(b)+1)))
		}
		for range 1500 {
			p := all[rng.Intn(len(all))]
			switch rng.Intn(8) {
			case 0:
				p.skip(t, rng.Intn(2*len(m.steps)+1)-len(m.steps))
			case 1:
				p.skip(t, rng.Intn(9)-4)
			case 2:
				p.skip(t, skips[rng.Intn(len(skips))])
			case 3:
				p.place(t)
			case 4, 5:
				p.next(t)
			default:
				p.prev(t)
			}
			all[rng.Intn(len(all))].at(t)
		}
		for _, p := range all {
			p.place(t)
		}
		if !bytes.Equal(textOf(t, r), b) {
			t.Fatalf("%s: the rope was changed", short(b))
		}
	}
}

// A cursor stands on its rope, whatever is made of the rope, and of the bytes of which it was made.
func TestP11_4RopeStays(t *testing.T) {
	b := steps(6000, 15)
	m := modelOf(b)
	mine := slices.Clone(b)
	r := made(t, mine)
	p := pairAt(t, m, r, 3000)
	spoil(mine)
	_ = replace(t, r, 0, 6000, nil)
	first, others := split(t, r, 2999)
	_ = join(t, others, first)
	for range 2000 {
		p.next(t)
	}
	for p.prev(t) {
	}
}

// A cursor goes over all steps of as great a text as there may be.
func TestP11_1GreatSkips(t *testing.T) {
	t.Parallel()
	r := doubled(t, []byte("\U0001F600"), 26)
	c := cursorAt(t, r, 3)
	for _, x := range []struct{ n, gone, runes int }{
		{1, 1, 1}, {1 << 25, 1 << 25, 1<<25 + 1}, {greatest, 1<<25 - 1, 1 << 26}, {1, 0, 1 << 26}, {-5, 5, 1<<26 - 5},
		{-1 << 25, 1 << 25, 1<<25 - 5}, {least, 1<<25 - 5, 0}, {-1, 0, 0}, {1 << 26, 1 << 26, 1 << 26}, {least + 1, 1 << 26, 0},
	} {
		if got := c.Skip(x.n); got != x.gone {
			t.Fatalf("Skip(%d): %d, want %d", x.n, got, x.gone)
		}
		for _, u := range rulers {
			want := map[api.Ruler]int{api.Bytes: 4, api.Runes: 1, api.Units: 2}[u] * x.runes
			if got, err := c.Place(u); got != want || err != api.OK {
				t.Fatalf("behind Skip(%d): Place(%d): %d, %d, want %d", x.n, u, got, err, want)
			}
		}
	}
}

// Where a cursor stands is what seek tells of the place at which it was made.
func TestP11_4CursorAndSeek(t *testing.T) {
	t.Parallel()
	for _, b := range [][]byte{[]byte(exampleText), steps(3000, 16)} {
		r := ways[6].make(t, b)
		for place := range len(b) + 1 {
			w, _ := seek.Where(r, place)
			c := cursorAt(t, r, place)
			for u, want := range map[api.Ruler]int{api.Bytes: w.Bytes, api.Runes: w.Runes, api.Units: w.Units} {
				if got, err := c.Place(u); got != want || err != api.OK {
					t.Fatalf("%s: New(%d), Place(%d): %d, %d, want %d", short(b), place, u, got, err, want)
				}
			}
		}
	}
}
