package rope_test

import (
	"bytes"
	"math/rand"
	"slices"
	"testing"

	"galley/api"
	"galley/rope"
	"galley/weld"
)

func TestP9_1NewExamples(t *testing.T) {
	r := made(t, []byte(example))
	holdRope(t, r, []byte(example))
	if r.Len() != 6 || r.Weld().Sizes != (api.Sizes{Bytes: 6, Runes: 5, Units: 5}) {
		t.Errorf("Len %d, Sizes %+v", r.Len(), r.Weld().Sizes)
	}
	for _, none := range [][]byte{nil, {}} {
		if r := made(t, none); r.Len() != 0 || r.Depth() != 0 || r.Weld() != (api.Weld{}) {
			t.Errorf("of nothing: %d, %d, %+v", r.Len(), r.Depth(), r.Weld())
		}
	}
}

func TestP9_1New(t *testing.T) {
	fewTexts(func(b []byte) { holdRope(t, made(t, b), b) })
	longTexts(func(_ string, b []byte) { holdRope(t, made(t, b), b) })
	for n := 4090; n <= 4102; n++ {
		for _, piece := range pieces {
			b := slices.Concat(bytes.Repeat([]byte("x"), n), []byte(piece+"\xf0\x9f\x98\x80\r\n"))
			holdText(t, made(t, b), b)
		}
	}
}

func TestP9_1Join(t *testing.T) {
	t.Parallel()
	for _, one := range append(pieces, "") {
		for _, other := range append(pieces, "") {
			a, b := made(t, []byte(one)), made(t, []byte(other))
			holdRope(t, join(t, a, b), []byte(one+other))
			holdText(t, a, []byte(one))
			holdText(t, b, []byte(other))
		}
	}
	// The same where both are too long to be one leaf, and of unlike heights.
	for _, sizes := range [][2]int{{4096, 1}, {1, 4096}, {1024, 1}, {1023, 1}, {1, 1023}, {1000, 1000}, {4096, 4096}, {30000, 3}, {3, 30000}, {30000, 9000}, {9000, 30000}} {
		for _, cut := range pieces {
			for n := 1; n < len(cut); n++ {
				x := slices.Concat(steps(sizes[0], 1), []byte(cut[:n]))
				y := slices.Concat([]byte(cut[n:]), steps(sizes[1], 2))
				holdText(t, join(t, made(t, x), made(t, y)), slices.Concat(x, y))
			}
		}
	}
	longTexts(func(_ string, b []byte) {
		r := made(t, b)
		holdRope(t, join(t, r, r), slices.Concat(b, b))
		holdRope(t, join(t, r, made(t, nil)), b)
		holdRope(t, join(t, made(t, nil), r), b)
	})
}

// grownTo is a rope of n bytes a, made of one by being joined with itself.
func grownTo(t *testing.T, n int) *rope.Rope {
	t.Helper()
	r, all := made(t, []byte("a")), made(t, nil)
	for ; n > 0; n /= 2 {
		if n%2 == 1 {
			all = join(t, all, r)
		}
		if n > 1 {
			r = join(t, r, r)
		}
	}
	return all
}

func TestP9_1Limits(t *testing.T) {
	t.Parallel()
	b := bytes.Repeat([]byte("a\r\n\xe2\x82\xac\xf0\x9f\x98\x80\xff\xc3\xa9abc"), api.MaxText/16+1)[:api.MaxText+1]
	if r, err := rope.New(b); r != nil || err != api.ErrLong {
		t.Errorf("New of one byte too many: %v, %d", r, err)
	}
	b = b[:api.MaxText]
	r := made(t, b)
	if r.Len() != api.MaxText || r.Weld() != weld.Of(b) {
		t.Errorf("Len %d, Weld %+v", r.Len(), r.Weld())
	}
	holdDepth(t, r)
	if one, err := rope.Join(r, made(t, []byte("x"))); one != nil || err != api.ErrLong {
		t.Errorf("Join with one byte too many: %v, %d", one, err)
	}
	if one, err := r.Replace(5, 6, []byte("xy")); one != nil || err != api.ErrLong {
		t.Errorf("Replace with one byte too many: %v, %d", one, err)
	}
	s := replace(t, r, 5, 6, []byte("x"))
	if got, err := s.Bytes(api.MaxText-5, api.MaxText); err != api.OK || !bytes.Equal(got, b[api.MaxText-5:]) {
		t.Errorf("the last bytes: % x, %d", got, err)
	}
	if s.Len() != api.MaxText || rope.Same(r, s) || !rope.Same(r, replace(t, s, 5, 6, b[5:6])) {
		t.Errorf("of %d bytes one was replaced", s.Len())
	}
}

func TestP9_1JoinLong(t *testing.T) {
	for _, n := range []int{1, 2, 3, 1000, api.MaxText / 2, api.MaxText - 1, api.MaxText} {
		a, b := grownTo(t, n), grownTo(t, api.MaxText-n)
		for _, both := range []*rope.Rope{join(t, a, b), join(t, b, a)} {
			holdDepth(t, both)
			if both.Len() != api.MaxText || both.Weld() != (api.Weld{Sizes: api.Sizes{Bytes: api.MaxText, Runes: api.MaxText, Units: api.MaxText}, Head: "aaa", Tail: "aaa"}) {
				t.Errorf("%d bytes and the others: %+v", n, both.Weld())
			}
		}
		more := grownTo(t, api.MaxText-n+1)
		for _, two := range [][2]*rope.Rope{{a, more}, {more, a}} {
			if r, err := rope.Join(two[0], two[1]); r != nil || err != api.ErrLong {
				t.Errorf("%d bytes and one too many: %v, %d", n, r, err)
			}
		}
		for _, two := range [][2]*rope.Rope{{more, nil}, {nil, more}, {nil, nil}} {
			if r, err := rope.Join(two[0], two[1]); r != nil || err != api.ErrNil {
				t.Errorf("with nil: %v, %d", r, err)
			}
		}
	}
}

func TestP9_2Before(t *testing.T) {
	r := made(t, []byte(example))
	if w, err := r.Before(2); err != api.OK || w != (api.Weld{Sizes: api.Sizes{Bytes: 2, Runes: 2, Units: 2}, Head: "h\xc3", Tail: "h\xc3"}) {
		t.Errorf("Before(2): %+v, %d", w, err)
	}
	fewTexts(func(b []byte) {
		r := made(t, b)
		for n := range len(b) + 1 {
			holdBefore(t, r, n, measureOf(b[:n]))
			holdBefore(t, r, n, weld.Of(b[:n]))
		}
	})
}

// Every place of long texts that were made in many ways.
func TestP9_2BeforeEveryPlace(t *testing.T) {
	t.Parallel()
	for i, w := range ways {
		for _, b := range [][]byte{steps(9001+i, int64(i)), mixed(4097, int64(i), leastBytes), bytes.Repeat([]byte("\r\n\U0001F600"), 900), mixed(5000, int64(i), badBytes)} {
			r := w.make(t, b)
			holdText(t, r, b)
			for n, want := range beginnings(b) {
				holdBefore(t, r, n, want)
			}
		}
	}
}

func TestP9_2LenAndWeld(t *testing.T) {
	for _, w := range ways {
		for _, b := range [][]byte{nil, []byte("\xe2"), []byte(example), steps(4097, 1), mixed(9000, 2, leastBytes), mixed(9000, 3, badBytes)} {
			r := w.make(t, b)
			if r.Len() != len(b) || r.Weld() != weld.Of(b) {
				t.Fatalf("%s: %d, %+v, want %d, %+v", w.name, r.Len(), r.Weld(), len(b), weld.Of(b))
			}
		}
	}
}

// holdFaults: places that are none, for every call that has an error.
func holdFaults(t *testing.T, r *rope.Rope, err api.Errno, lo, hi int) {
	t.Helper()
	if b, e := r.Bytes(lo, hi); b != nil || e != err {
		t.Errorf("Bytes(%d, %d) of %d bytes: % x, %d", lo, hi, r.Len(), b, e)
	}
	for _, text := range [][]byte{nil, []byte("x"), make([]byte, 5000)} {
		if s, e := r.Replace(lo, hi, text); s != nil || e != err {
			t.Errorf("Replace(%d, %d, %d bytes) of %d bytes: %v, %d", lo, hi, len(text), r.Len(), s, e)
		}
	}
}

func holdNoPlace(t *testing.T, r *rope.Rope, err api.Errno, n int) {
	t.Helper()
	if w, e := r.Before(n); w != (api.Weld{}) || e != err {
		t.Errorf("Before(%d) of %d bytes: %+v, %d", n, r.Len(), w, e)
	}
	if a, b, e := r.Split(n); a != nil || b != nil || e != err {
		t.Errorf("Split(%d) of %d bytes: %v, %v, %d", n, r.Len(), a, b, e)
	}
}

func TestP9_3Faults(t *testing.T) {
	for _, b := range [][]byte{nil, []byte("a"), []byte(example), steps(4096, 1), steps(4097, 2), steps(20000, 3)} {
		r, size := made(t, b), len(b)
		for _, bad := range append(slices.Clone(noPlaces), size+1, size+2) {
			holdNoPlace(t, r, api.ErrRange, bad)
			for _, other := range []int{0, size / 2, size, bad} {
				holdFaults(t, r, api.ErrRange, bad, other)
				holdFaults(t, r, api.ErrRange, other, bad)
			}
			holdFaults(t, r, api.ErrRange, least, greatest)
			holdFaults(t, r, api.ErrRange, greatest, least)
		}
		for _, lo := range manyPlaces(size) {
			for _, hi := range []int{0, lo / 2, lo - 1} {
				if hi < lo {
					holdFaults(t, r, api.ErrRange, lo, hi)
				}
			}
		}
		holdText(t, r, b)
	}
}

// R2: a wrong place comes ahead of a text that is too long, a nil rope ahead of both.
func TestP9_3FaultsInOrder(t *testing.T) {
	t.Parallel()
	tooLong := make([]byte, api.MaxText+1)
	r := made(t, []byte("abc"))
	for _, x := range []struct {
		r      *rope.Rope
		lo, hi int
		want   api.Errno
	}{
		{nil, 0, 0, api.ErrNil}, {nil, -1, 9, api.ErrNil}, {r, 2, 1, api.ErrRange}, {r, -1, 1, api.ErrRange}, {r, 0, 4, api.ErrRange},
		{r, 0, 3, api.ErrLong}, {r, 1, 1, api.ErrLong},
	} {
		if s, err := x.r.Replace(x.lo, x.hi, tooLong); s != nil || err != x.want {
			t.Errorf("Replace(%d, %d, too long): %v, %d, want %d", x.lo, x.hi, s, err, x.want)
		}
	}
	most := tooLong[:api.MaxText]
	if s, err := r.Replace(0, 2, most); s != nil || err != api.ErrLong {
		t.Errorf("one byte too many: %v, %d", s, err)
	}
	if s := replace(t, r, 0, 3, most); s.Len() != api.MaxText || s.Weld().Sizes.Runes != api.MaxText {
		t.Errorf("all of it replaced: %+v", s.Weld())
	}
}

func TestP9_3NilRopes(t *testing.T) {
	var none *rope.Rope
	if none.Len() != 0 || none.Weld() != (api.Weld{}) || none.Depth() != 0 {
		t.Errorf("nil: %d, %+v, %d", none.Len(), none.Weld(), none.Depth())
	}
	for _, n := range append(slices.Clone(noPlaces), 0, 1) {
		holdNoPlace(t, none, api.ErrNil, n)
		for _, m := range append(slices.Clone(noPlaces), 0, 1) {
			holdFaults(t, none, api.ErrNil, n, m)
		}
		for _, back := range []bool{false, true} {
			if got := behind(t, none.Pieces(n, back)); len(got) != 0 {
				t.Errorf("Pieces(%d, %t) of nil: % x", n, back, got)
			}
		}
	}
	for _, r := range []*rope.Rope{nil, made(t, nil), made(t, []byte("a")), made(t, steps(9000, 1))} {
		for _, two := range [][2]*rope.Rope{{none, r}, {r, none}} {
			if got, err := rope.Join(two[0], two[1]); got != nil || err != api.ErrNil {
				t.Errorf("Join of nil and %d bytes: %v, %d", r.Len(), got, err)
			}
			if rope.Same(two[0], two[1]) != (r.Len() == 0) {
				t.Errorf("Same of nil and %d bytes", r.Len())
			}
		}
	}
}

func TestP9_3Bytes(t *testing.T) {
	r := made(t, []byte(example))
	if b, err := r.Bytes(1, 3); err != api.OK || string(b) != "\xc3\xa9" {
		t.Errorf("Bytes(1, 3): % x, %d", b, err)
	}
	holdFaults(t, r, api.ErrRange, 3, 1)
	holdFaults(t, r, api.ErrRange, 0, 7)
	hold := func(r *rope.Rope, b []byte, lo, hi int) {
		if got, err := r.Bytes(lo, hi); err != api.OK || !bytes.Equal(got, b[lo:hi]) {
			t.Fatalf("Bytes(%d, %d) of %s: %s, %d", lo, hi, short(b), short(got), err)
		}
	}
	all := func(r *rope.Rope, b []byte) {
		places := manyPlaces(len(b))
		for _, lo := range places {
			for _, hi := range places {
				if lo <= hi {
					hold(r, b, lo, hi)
				}
			}
		}
	}
	fewTexts(func(b []byte) { all(made(t, b), b) })
	for _, w := range ways {
		for _, b := range [][]byte{nil, []byte(example), steps(4097, 1), steps(10000, 2)} {
			all(w.make(t, b), b)
		}
	}
	b := steps(9000, 3)
	r = ways[5].make(t, b)
	for lo := range len(b) {
		hold(r, b, lo, lo+1)
		hold(r, b, lo, lo)
	}
}

func TestP9_3Split(t *testing.T) {
	r := made(t, []byte(example))
	a, b := split(t, r, 2)
	if a.Weld().Sizes.Runes != 2 || b.Weld().Sizes.Runes != 4 || join(t, a, b).Weld().Sizes.Runes != 5 {
		t.Errorf("Split(2): %+v, %+v", a.Weld(), b.Weld())
	}
	hold := func(r *rope.Rope, b []byte) {
		for _, n := range manyPlaces(len(b)) {
			first, others := split(t, r, n)
			holdText(t, first, b[:n])
			holdText(t, others, b[n:])
		}
		holdText(t, r, b)
	}
	fewTexts(func(b []byte) { hold(made(t, b), b) })
	for _, w := range ways {
		for _, b := range [][]byte{nil, []byte(example), steps(4097, 1), mixed(10000, 2, leastBytes)} {
			hold(w.make(t, b), b)
		}
	}
}

// Every place of a text of several leaves.
func TestP9_3SplitEveryPlace(t *testing.T) {
	b := steps(5000, 4)
	for _, w := range []way{ways[0], ways[5]} {
		r := w.make(t, b)
		for n, want := range beginnings(b) {
			first, others := split(t, r, n)
			if first.Weld() != want || others.Len() != len(b)-n || !bytes.Equal(textOf(t, first), b[:n]) || !bytes.Equal(textOf(t, others), b[n:]) {
				t.Fatalf("%s: Split(%d): %+v, %+v", w.name, n, first.Weld(), others.Weld())
			}
			holdDepth(t, first)
			holdDepth(t, others)
			if both, err := weld.Join(first.Weld(), others.Weld()); err != api.OK || both != r.Weld() {
				t.Fatalf("%s: Split(%d): the measures together are %+v, %d", w.name, n, both, err)
			}
		}
	}
}

func TestP9_3Replace(t *testing.T) {
	r := made(t, []byte(example))
	s := replace(t, r, 2, 3, []byte("\n"))
	holdRope(t, s, []byte("h\xc3\nllo"))
	if s.Weld().Sizes != (api.Sizes{Bytes: 6, Runes: 6, Units: 6, Ends: 1}) {
		t.Errorf("%+v", s.Weld().Sizes)
	}
	holdRope(t, r, []byte(example))
	fill := [][]byte{nil, []byte("x"), []byte("\r\n"), []byte("\x9f\x98"), []byte("\xac\xe2"), []byte("\xf0\x9f\x98\x80")}
	short := func(b []byte) {
		r := made(t, b)
		for lo := range len(b) + 1 {
			for hi := lo; hi <= len(b); hi++ {
				for _, text := range fill {
					holdText(t, replace(t, r, lo, hi, text), slices.Concat(b[:lo], text, b[hi:]))
				}
			}
		}
	}
	texts(3, leastBytes, short)
	for _, piece := range pieces {
		short([]byte(piece))
		short([]byte("\r" + piece + "\xe2\x82"))
	}
	for _, w := range ways {
		for _, b := range [][]byte{nil, []byte(example), steps(4097, 1), mixed(10000, 2, leastBytes)} {
			r := w.make(t, b)
			for i, lo := range manyPlaces(len(b)) {
				hi := min(len(b), lo+[]int{0, 1, 2, 3, 900, 5000, greatest / 2}[i%7])
				text := steps([]int{0, 1, 2, 500, 1024, 4096, 4097, 9000}[i%8], int64(i))
				holdText(t, replace(t, r, lo, hi, text), slices.Concat(b[:lo], text, b[hi:]))
			}
			holdText(t, r, b)
		}
	}
}

func TestP9_6Same(t *testing.T) {
	for _, b := range [][]byte{nil, []byte("a"), []byte(example), steps(4096, 1), mixed(9000, 2, leastBytes), mixed(4097, 3, badBytes)} {
		var list []*rope.Rope
		for _, w := range ways {
			list = append(list, w.make(t, b))
		}
		for i, one := range list {
			for j, other := range list {
				if !rope.Same(one, other) {
					t.Errorf("%s and %s, of %s", ways[i].name, ways[j].name, short(b))
				}
			}
		}
	}
}

// unlike: two texts, made in two ways, are not Same, whichever comes first.
func unlike(t *testing.T, one, other *rope.Rope, told string) {
	t.Helper()
	if rope.Same(one, other) || rope.Same(other, one) {
		t.Errorf("%s: %s and %s are Same", told, short(textOf(t, one)), short(textOf(t, other)))
	}
}

func TestP9_6NotSame(t *testing.T) {
	var few []*rope.Rope
	seen := map[string]bool{}
	fewTexts(func(b []byte) {
		if len(few) < 700 && !seen[string(b)] {
			seen[string(b)] = true
			few = append(few, made(t, b))
		}
	})
	for i, one := range few {
		for _, other := range few[:i] {
			unlike(t, one, other, "short")
		}
	}
	b := steps(9000, 5)
	r := ways[5].make(t, b)
	for _, n := range manyPlaces(len(b)) {
		unlike(t, r, replace(t, r, n, n, []byte("x")), "one byte more")
		if n == len(b) {
			continue
		}
		unlike(t, r, replace(t, r, n, n+1, nil), "one byte less")
		unlike(t, r, made(t, slices.Concat(b[:n], []byte{b[n] ^ 1}, b[n+1:])), "one byte another")
		unlike(t, r, replace(t, made(t, b), n, n+1, []byte{b[n] ^ 0x80}), "one byte another")
	}
	// The same measures, and unlike bytes at one place.
	plain := bytes.Repeat([]byte("x"), 9000)
	r = made(t, plain)
	for n := 3; n < len(plain)-3; n += 37 {
		s := replace(t, r, n, n+1, []byte("y"))
		if s.Weld() != r.Weld() {
			t.Fatalf("%+v, %+v", s.Weld(), r.Weld())
		}
		unlike(t, r, s, "one y")
		unlike(t, ways[6].make(t, plain), s, "one y")
		if n > 40 {
			unlike(t, replace(t, r, n-37, n-36, []byte("y")), s, "a y at another place")
		}
	}
}

func TestP9_7DepthOfFew(t *testing.T) {
	if made(t, nil).Depth() != 0 || made(t, []byte{}).Depth() != 0 {
		t.Error("of no bytes")
	}
	first, others := split(t, made(t, []byte("ab")), 0)
	if first.Depth() != 0 || others.Depth() < 1 {
		t.Error("split at 0")
	}
	if d := replace(t, made(t, steps(9000, 1)), 0, 9000, nil).Depth(); d != 0 {
		t.Errorf("of no bytes left: %d", d)
	}
	if join(t, first, first).Depth() != 0 {
		t.Error("no bytes, joined")
	}
	r := made(t, nil)
	for i := range 600 {
		r = join(t, r, made(t, []byte{byte(i)}))
		holdDepth(t, r)
	}
	for n := r.Len(); n > 0; n-- {
		r, _ = split(t, r, n-1)
		holdDepth(t, r)
	}
}

// holdBalanced: the depth's bounds, for what comes of many calls of one kind.
func holdBalanced(t *testing.T, name string, calls int, call func(r *rope.Rope, i int) *rope.Rope) {
	t.Helper()
	t.Run(name, func(t *testing.T) {
		r := made(t, nil)
		for i := range calls {
			r = call(r, i)
			holdDepth(t, r)
		}
		holdSizes(t, r)
	})
}

// holdSizes: a rope's measure, and some of its beginnings, are those of what it says its bytes are.
func holdSizes(t *testing.T, r *rope.Rope) {
	t.Helper()
	b := textOf(t, r)
	if r.Len() != len(b) || r.Weld() != measureOf(b) {
		t.Fatalf("%+v, want %+v", r.Weld(), measureOf(b))
	}
	for _, n := range manyPlaces(len(b)) {
		holdBefore(t, r, n, measureOf(b[:n]))
	}
}

func TestP9_7DepthAfterManyCalls(t *testing.T) {
	t.Parallel()
	rng := rand.New(rand.NewSource(1))
	one := made(t, []byte("\xe2"))
	leaves := []*rope.Rope{made(t, steps(1025, 1)), made(t, steps(4096, 2)), made(t, steps(700, 3))}
	great := made(t, steps(70000, 4))
	holdBalanced(t, "bytes at the end", 20000, func(r *rope.Rope, _ int) *rope.Rope { return join(t, r, one) })
	holdBalanced(t, "bytes at the beginning", 20000, func(r *rope.Rope, _ int) *rope.Rope { return join(t, one, r) })
	holdBalanced(t, "leaves at the end", 3000, func(r *rope.Rope, i int) *rope.Rope { return join(t, r, leaves[i%3]) })
	holdBalanced(t, "leaves at the beginning", 3000, func(r *rope.Rope, i int) *rope.Rope { return join(t, leaves[i%3], r) })
	holdBalanced(t, "leaves at both ends", 2000, func(r *rope.Rope, i int) *rope.Rope {
		if i%3 == 0 {
			return join(t, r, leaves[1])
		}
		return join(t, leaves[0], r)
	})
	holdBalanced(t, "put at the end", 3000, func(r *rope.Rope, i int) *rope.Rope {
		return replace(t, r, r.Len(), r.Len(), steps(i%1500, 1))
	})
	holdBalanced(t, "put at the beginning", 3000, func(r *rope.Rope, i int) *rope.Rope {
		return replace(t, r, 0, 0, steps(i%1500, 1))
	})
	holdBalanced(t, "put in the middle", 3000, func(r *rope.Rope, i int) *rope.Rope {
		return replace(t, r, r.Len()/2, r.Len()/2, steps(i%1500, 1))
	})
	holdBalanced(t, "put at random places", 5000, func(r *rope.Rope, i int) *rope.Rope {
		lo := rng.Intn(r.Len() + 1)
		return replace(t, r, lo, min(r.Len(), lo+rng.Intn(900)), steps(rng.Intn(1200), 1))
	})
	holdBalanced(t, "unlike sizes", 1500, func(r *rope.Rope, i int) *rope.Rope {
		switch i % 4 {
		case 0:
			return join(t, r, one)
		case 1:
			return join(t, leaves[2], r)
		case 2:
			return join(t, great, r)
		}
		r, _ = split(t, r, r.Len()-rng.Intn(r.Len()/4+1))
		return r
	})
	holdBalanced(t, "cut at both ends", 2000, func(r *rope.Rope, i int) *rope.Rope {
		if r.Len() < 5000 {
			return join(t, great, great)
		}
		_, r = split(t, r, rng.Intn(500))
		r, _ = split(t, r, r.Len()-rng.Intn(500))
		return r
	})
}

// Ropes of ropes joined with themselves, cut out anywhere, of all sizes up to the greatest.
func TestP9_7DepthOfGreatRopes(t *testing.T) {
	rng := rand.New(rand.NewSource(2))
	r := made(t, []byte("a\xe2\x82\xac\r\n\xf0\x9f\x98\x80"))
	for 2*r.Len() <= api.MaxText {
		if rng.Intn(3) == 0 && r.Len() > 1000 {
			a, b := split(t, r, rng.Intn(r.Len()))
			r = join(t, b, a)
		}
		r = join(t, r, r)
		holdDepth(t, r)
		for range 20 {
			a, b := split(t, r, rng.Intn(r.Len()+1))
			holdDepth(t, a)
			holdDepth(t, b)
			holdDepth(t, join(t, b, a))
		}
	}
}

func TestP9_8AnyMake(t *testing.T) {
	t.Parallel()
	for _, w := range ways {
		t.Run(w.name, func(t *testing.T) {
			t.Parallel()
			for _, piece := range pieces {
				b := []byte(piece + "\r\n" + piece)
				holdRope(t, w.make(t, b), b)
			}
			longTexts(func(_ string, b []byte) { holdRope(t, w.make(t, b), b) })
		})
	}
}

// Long scripts of calls: each rope answers as its bytes say when it is made, and when all is done.
func TestP9_8Scripts(t *testing.T) {
	t.Parallel()
	for seed := range int64(12) {
		rng := rand.New(rand.NewSource(seed))
		most := []int{40, 3000, 30000}[seed%3]
		var s scripts
		s.add(made(t, nil), nil)
		for i := range 4 {
			b := steps(most/(i+2), seed*10+int64(i))
			s.add(made(t, b), b)
		}
		for range 500 {
			from := len(s.ropes)
			s.call(t, rng, most)
			for i := from; i < len(s.ropes); i++ {
				holdText(t, s.ropes[i], s.texts[i])
			}
		}
		for i, r := range s.ropes {
			if most < 100 || i%10 == 0 {
				holdRope(t, r, s.texts[i])
			} else {
				holdText(t, r, s.texts[i])
			}
		}
	}
}

// One text, changed thousands of times; of the ropes on the way some are kept, and stay.
func TestP9_8LongHistory(t *testing.T) {
	t.Parallel()
	rng := rand.New(rand.NewSource(9))
	var kept scripts
	text := steps(20000, 1)
	r := made(t, text)
	for i := range 4000 {
		lo := rng.Intn(len(text) + 1)
		hi := min(len(text), lo+rng.Intn(5)*rng.Intn(100))
		put := steps(rng.Intn(5)*rng.Intn(100), int64(i))
		r = replace(t, r, lo, hi, put)
		text = slices.Concat(text[:lo], put, text[hi:])
		if i%200 == 0 {
			kept.add(r, text)
			holdRope(t, r, text)
		}
	}
	holdRope(t, r, text)
	for i, r := range kept.ropes {
		holdRope(t, r, kept.texts[i])
	}
}

func TestP9_8SplitAndJoin(t *testing.T) {
	hold := func(r *rope.Rope, n int) {
		a, b := split(t, r, n)
		again := join(t, a, b)
		if !rope.Same(again, r) || again.Weld() != r.Weld() || again.Len() != r.Len() {
			t.Fatalf("split at %d and joined: %+v, want %+v", n, again.Weld(), r.Weld())
		}
		holdDepth(t, again)
	}
	fewTexts(func(b []byte) {
		for n := range len(b) + 1 {
			hold(made(t, b), n)
		}
	})
	for _, w := range ways {
		b := steps(9000, 8)
		r := w.make(t, b)
		for n := 0; n <= len(b); n += 61 {
			hold(r, n)
		}
		for _, n := range manyPlaces(len(b)) {
			hold(r, n)
		}
	}
}

func TestP9_8JoinIsAssociative(t *testing.T) {
	hold := func(a, b, c *rope.Rope) {
		left, right := join(t, join(t, a, b), c), join(t, a, join(t, b, c))
		want := slices.Concat(textOf(t, a), textOf(t, b), textOf(t, c))
		holdText(t, left, want)
		holdText(t, right, want)
		if !rope.Same(left, right) || left.Weld() != right.Weld() {
			t.Fatalf("%s: %+v, %+v", short(want), left.Weld(), right.Weld())
		}
	}
	var few, long []*rope.Rope
	for _, piece := range append(pieces, "") {
		few = append(few, made(t, []byte(piece)))
	}
	for _, n := range []int{0, 1, 500, 4097, 13000} {
		long = append(long, made(t, mixed(n, int64(n), leastBytes)))
	}
	for _, list := range [][]*rope.Rope{few, long} {
		for _, a := range list {
			for _, b := range list {
				for _, c := range list {
					hold(a, b, c)
				}
			}
		}
	}
}

func TestP9_8ReplaceIsSplitAndJoin(t *testing.T) {
	t.Parallel()
	rng := rand.New(rand.NewSource(4))
	for i := range 1500 {
		b := steps([]int{0, 5, 40, 1500, 9000}[i%5], int64(i))
		r := ways[i%len(ways)].make(t, b[:min(len(b), 1500+7500*(i%20/19))])
		lo := rng.Intn(r.Len() + 1)
		hi := lo + rng.Intn(r.Len()-lo+1)
		text := steps(rng.Intn(3)*rng.Intn(600), int64(-i))
		first, _ := split(t, r, lo)
		_, others := split(t, r, hi)
		want := join(t, join(t, first, made(t, text)), others)
		got := replace(t, r, lo, hi, text)
		if !rope.Same(got, want) || got.Weld() != want.Weld() || got.Len() != want.Len() {
			t.Fatalf("Replace(%d, %d, %d bytes) of %d bytes", lo, hi, len(text), r.Len())
		}
	}
}

// R6: bytes that are handed in stay, the room behind them is neither written nor read, and none are kept.
func TestP9_8BytesHandedIn(t *testing.T) {
	for _, n := range []int{0, 1, 2, 3, 7, 100, 1024, 4095, 4096, 4097, 9000} {
		room := steps(n+10, int64(n))
		before := bytes.Clone(room)
		r := made(t, room[:n])
		old := made(t, steps(50, 1))
		s := replace(t, old, 20, 30, room[:n])
		if !bytes.Equal(room, before) {
			t.Fatalf("%s became %s", short(before), short(room))
		}
		spoil(room)
		holdRope(t, r, before[:n])
		holdRope(t, s, slices.Concat(steps(50, 1)[:20], before[:n], steps(50, 1)[30:]))
	}
	// The first bytes of an encoding at the text's end, with what would go on in the room behind it.
	face := []byte("ab\xf0\x9f\x98\x80")
	for n := range len(face) {
		holdRope(t, made(t, face[:n]), bytes.Clone(face[:n]))
	}
}

// R6: what was answered may be written over, spare room too, and nothing else changes.
func TestP9_8AnswersAreNew(t *testing.T) {
	for _, w := range ways {
		for _, b := range [][]byte{nil, []byte("a"), []byte(example), steps(4096, 1), steps(9000, 2)} {
			r := w.make(t, b)
			one, other := textOf(t, r), textOf(t, r)
			spoil(one)
			if !bytes.Equal(other, b) {
				t.Fatalf("%s became %s", short(b), short(other))
			}
			for _, n := range manyPlaces(len(b)) {
				part, err := r.Bytes(n, min(len(b), n+3))
				if err != api.OK {
					t.Fatal(err)
				}
				spoil(part)
			}
			holdRope(t, r, b)
		}
	}
}

// Whatever is made of a rope, and done to what was made, it and the others stay.
func TestP9_8RopesNeverChange(t *testing.T) {
	for _, w := range ways {
		for _, b := range [][]byte{[]byte(example), steps(3000, 1), steps(9000, 2)} {
			r := w.make(t, b)
			depth := r.Depth()
			for i, n := range manyPlaces(len(b)) {
				first, others := split(t, r, n)
				turned := join(t, others, first)
				put := replace(t, r, n, min(len(b), n+i%5), []byte("\r\xe2"))
				replace(t, first, 0, first.Len(), []byte("x"))
				replace(t, others, 0, min(1, others.Len()), nil)
				join(t, first, turned)
				join(t, put, others)
				holdText(t, first, b[:n])
				holdText(t, others, b[n:])
				holdText(t, turned, slices.Concat(b[n:], b[:n]))
				holdText(t, put, slices.Concat(b[:n], []byte("\r\xe2"), b[min(len(b), n+i%5):]))
			}
			holdRope(t, r, b)
			if r.Depth() != depth {
				t.Errorf("%s: the depth was %d, and is %d", w.name, depth, r.Depth())
			}
		}
	}
}
