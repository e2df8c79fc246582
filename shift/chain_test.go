package shift_test

import (
	"bytes"
	"math/rand"
	"slices"
	"testing"

	"galley/api"
	"galley/delta"
	"galley/shift"
)

func TestP14_1ExamplesOfChain(t *testing.T) {
	for _, c := range []struct {
		as   []api.Delta
		b    string
		want string
		list []api.Delta
		err  api.Errno
	}{
		{writtenAll("=2 +xy -1 =3", "=4 -3"), "=2 +z =4", "=4 +z", writtenAll("=2 +xy =1 -1 =3", "=5 -3"), api.OK},
		{nil, "=2 +z =4", "=2 +z =4", nil, api.OK},
		{nil, "", "", nil, api.OK},
		{writtenAll("=2 +xy -1 =3"), "=2 +z =4", "=4 +z =3", writtenAll("=2 +xy =1 -1 =3"), api.OK},
		{writtenAll("", "", ""), "+z", "+z", writtenAll("=1", "=1", "=1"), api.OK},
		{writtenAll("+a", "=1 +b", "-2"), "+z", "+z", writtenAll("+a =1", "=1 +b =1", "-2 =1"), api.OK},
		// What is put anew where another text came and went stands ahead of z too.
		{writtenAll("+a", "-1", "+b"), "+z", "=1 +z", writtenAll("+a =1", "-1 =1", "+b =1"), api.OK},
		{writtenAll("-2", "+a"), "=1 +z =1", "=1 +z", writtenAll("-1 =1 -1", "+a =1"), api.OK},
		{writtenAll("=2 +xy -1 =3", "=2 +xy -1 =3"), "=2 +z =4", "", nil, api.ErrFit},
		{writtenAll("=2 +xy -1 =3"), "=2", "", nil, api.ErrFit},
		{writtenAll("=2 +xy -1 =3", "=2 +xy -1 =3"), "=0", "", nil, api.ErrDelta},
	} {
		if got, list, err := shift.Chain(c.as, written(c.b)); !slices.Equal(got, written(c.want)) || !equalAll(list, c.list) || err != c.err {
			t.Errorf("Chain(%s, %s):%s;%s, %d, want %s;%s, %d", toldAll(c.as), c.b, told(got), toldAll(list), err, c.want, toldAll(c.list), c.err)
		}
	}
}

// holdChain holds Chain of deltas that fit against the chapter's words, and holds that both orders meet.
func holdChain(t *testing.T, as []api.Delta, b api.Delta) {
	t.Helper()
	want, wantList := b, []api.Delta(nil)
	for _, a := range as {
		wantList = append(wantList, over(want, a, true))
		want = over(a, want, false)
	}
	got, list, err := shift.Chain(as, b)
	if !slices.Equal(got, want) || !equalAll(list, wantList) || err != api.OK {
		t.Fatalf("Chain(%s, %s):%s;%s, %d, want%s;%s", toldAll(as), told(b), told(got), toldAll(list), err, told(want), toldAll(wantList))
	}
	for _, d := range append(slices.Clone(list), got) {
		if !delta.Valid(d) {
			t.Fatalf("Chain(%s, %s):%s isn't canonical", toldAll(as), told(b), told(d))
		}
	}
	n, _, _ := delta.Lens(b)
	x := distinct(n)
	if one, other := run(t, run(t, x, as...), got), run(t, run(t, x, b), list...); !bytes.Equal(one, other) {
		t.Fatalf("Chain(%s, %s): they make %x and %x", toldAll(as), told(b), one, other)
	}
	if one, other := composed(t, composed(t, keepAll(n), as...), got), composed(t, b, list...); !slices.Equal(one, other) {
		t.Fatalf("Chain(%s, %s):%s and%s", toldAll(as), told(b), told(one), told(other))
	}
}

// Chains of none, of one and of two short deltas.
func TestP14_1And2ShortChains(t *testing.T) {
	t.Parallel()
	seconds := [][]api.Delta{}
	for n := range 6 {
		seconds = append(seconds, all(n, 'p', 0, 1))
	}
	for n := range 3 {
		as := all(n, 'a', 0, 1)
		for _, b := range all(n, 'A', 0, 2) {
			holdChain(t, nil, b)
			for _, a := range as {
				holdChain(t, []api.Delta{a}, b)
				_, to, _ := delta.Lens(a)
				for _, second := range seconds[to] {
					holdChain(t, []api.Delta{a, second}, b)
				}
			}
		}
	}
}

// Longer chains, of longer deltas.
func TestP14_1And2LongChains(t *testing.T) {
	t.Parallel()
	rng := rand.New(rand.NewSource(41))
	for range 300 {
		n := rng.Intn(200)
		b := byChance(rng, n)
		var as []api.Delta
		for range rng.Intn(9) {
			a := byChance(rng, n)
			as = append(as, a)
			_, n, _ = delta.Lens(a)
		}
		holdChain(t, as, b)
	}
}

// A chain of one is Both; one of several is Both again and again.
func TestP14_1ChainIsBoth(t *testing.T) {
	t.Parallel()
	pairs(func(a, b api.Delta) {
		a2, b2, errBoth := shift.Both(a, b)
		got, list, err := shift.Chain([]api.Delta{a}, b)
		if !slices.Equal(got, b2) || !equalAll(list, []api.Delta{a2}) || err != api.OK || errBoth != api.OK {
			t.Fatalf("Chain(%s, %s):%s;%s, %d, want%s;%s", told(a), told(b), told(got), toldAll(list), err, told(b2), told(a2))
		}
	})
}

func holdChainRefused(t *testing.T, as []api.Delta, b api.Delta, want api.Errno) {
	t.Helper()
	if got, list, err := shift.Chain(as, b); len(got) != 0 || len(list) != 0 || err != want {
		t.Errorf("Chain(%s, %s):%s;%s, %d, want %d", toldAll(as), told(b), told(got), toldAll(list), err, want)
	}
}

// One that isn't canonical, at each place of the list, or b itself: ErrDelta, though others don't fit and what is made is too long.
func TestP14_1ChainWithWrongDeltas(t *testing.T) {
	t.Parallel()
	lists := [][]api.Delta{
		writtenAll("=2 +x =1", "-1 =3", "=3 +yz"), // of three bytes, all fit
		writtenAll("=3", "=4", "=2 +x"),           // none fits the next
		{{keep(most - 1), put("x")}, {keep(most)}, {drop(most)}},
	}
	for _, bad := range wrong() {
		holdChainRefused(t, nil, bad, api.ErrDelta)
		for _, as := range lists {
			for _, b := range []api.Delta{written("+z =3"), written("=7"), {keep(most - 1), put("y")}} {
				holdChainRefused(t, as, bad, api.ErrDelta)
				for i := range as {
					list := slices.Clone(as)
					list[i] = bad
					holdChainRefused(t, list, b, api.ErrDelta)
					holdChainRefused(t, slices.Insert(slices.Clone(as), i, bad), b, api.ErrDelta)
				}
				holdChainRefused(t, append(slices.Clone(as), bad), b, api.ErrDelta)
			}
		}
	}
}

// One that doesn't fit, at each place of the list.
func TestP14_1ChainThatDoesNotFit(t *testing.T) {
	t.Parallel()
	as, b := writtenAll("=2 +x =1", "-1 =3", "=3 +yz", "=5"), written("+z =3")
	if _, _, err := shift.Chain(as, b); err != api.OK {
		t.Fatalf("Chain: %d", err)
	}
	for i := range as {
		for _, other := range writtenAll("", "=1", "=9", "+x", "-2 =7", "=6 +q") {
			list := slices.Clone(as)
			list[i] = other
			holdChainRefused(t, list, b, api.ErrFit)
		}
		holdChainRefused(t, slices.Delete(slices.Clone(as), i, i+1), written("+z =2"), api.ErrFit)
	}
	holdChainRefused(t, append(slices.Clone(as), written("=3")), b, api.ErrFit)
	holdChainRefused(t, as, written("+z =4"), api.ErrFit)
	holdChainRefused(t, as, nil, api.ErrFit)
	// One whose from is that of b, though it stands behind another; b's from is the last to.
	holdChainRefused(t, writtenAll("=2 +x =1", "=3"), b, api.ErrFit)
	holdChainRefused(t, writtenAll("=2 +x =1"), written("=4"), api.ErrFit)
	// Two of these at one time meet again further on.
	holdChainRefused(t, writtenAll("=3 +x", "=3 +xy", "=5"), b, api.ErrFit)
}

// A text on the way of MaxText bytes, and of one more, at the first, the second and the last; though what is made at last is short, and others are told ahead of it.
func TestP14_1ChainMaxText(t *testing.T) {
	t.Parallel()
	plus := func(n int) api.Delta { return api.Delta{keep(n), put("x")} }
	z := func(n int) api.Delta { return api.Delta{put("z"), keep(n)} }
	holdChainRefused(t, []api.Delta{plus(most - 1)}, z(most-1), api.ErrLong)
	holdChainRefused(t, []api.Delta{plus(most - 1), {drop(most)}}, z(most-1), api.ErrLong)
	holdChainRefused(t, []api.Delta{plus(most - 2), plus(most - 1), {drop(most)}}, z(most-2), api.ErrLong)
	holdChainRefused(t, []api.Delta{plus(most - 3), plus(most - 2), plus(most - 1)}, z(most-3), api.ErrLong)
	holdChainRefused(t, []api.Delta{{keep(most - 1), drop(1)}, plus(most - 1), {keep(most)}}, api.Delta{put("z"), keep(most - 1), drop(1)}, api.ErrLong)
	// ErrFit is told ahead of that, and ErrDelta ahead of both.
	holdChainRefused(t, []api.Delta{plus(most - 1), {drop(most - 1)}}, z(most-1), api.ErrFit)
	holdChainRefused(t, []api.Delta{plus(most - 1), {drop(most)}, written("=1")}, z(most-1), api.ErrFit)
	holdChainRefused(t, []api.Delta{plus(most - 1), {drop(most - 1)}, nil, nil}, z(most-1), api.ErrFit)
	holdChainRefused(t, []api.Delta{plus(most - 1), {keep(most)}}, z(most-2), api.ErrFit)
	holdChainRefused(t, []api.Delta{plus(most - 1), {drop(most - 1)}, written("=0")}, z(most-1), api.ErrDelta)
	holdChainRefused(t, []api.Delta{plus(most - 1), {drop(most)}, {put("x"), put("y")}}, z(most-1), api.ErrDelta)
	got, list, err := shift.Chain([]api.Delta{plus(most - 3), plus(most - 2), {drop(most - 1)}, nil}, z(most-3))
	want := []api.Delta{{keep(most - 2), put("x")}, {keep(most - 1), put("x")}, {keep(1), drop(most - 1)}, {keep(1)}}
	if !slices.Equal(got, written("+z")) || !equalAll(list, want) || err != api.OK {
		t.Errorf("Chain:%s;%s, %d", told(got), toldAll(list), err)
	}
	long := tooLong()[:most]
	if got, list, err := shift.Chain(nil, api.Delta{put(long)}); !slices.Equal(got, api.Delta{put(long)}) || len(list) != 0 || err != api.OK {
		t.Errorf("Chain of nothing:%s, %d, %d", told(got), len(list), err)
	}
}
