package shift_test

import (
	"bytes"
	"math/rand"
	"slices"
	"strings"
	"testing"

	"galley/api"
	"galley/delta"
	"galley/shift"
)

func TestP14_1ExamplesOfOver(t *testing.T) {
	for _, c := range []struct {
		a, b  string
		first bool
		want  string
		err   api.Errno
	}{
		{"=2 +xy -1 =3", "=1 -2 =3", true, "=1 -1 =5", api.OK},
		{"=1 -2 =3", "=2 +xy -1 =3", true, "=1 +xy =3", api.OK},
		{"=2 +xy -1 =3", "=2 +z =4", true, "=2 +z =5", api.OK},
		{"=2 +xy -1 =3", "=2 +z =4", false, "=4 +z =3", api.OK},
		{"=2 +xy -1 =3", "=5", true, "", api.ErrFit},
		{"=2 +xy -1 =3", "=5", false, "", api.ErrFit},
		// A text put within what the other drops stays, and what is dropped about it is dropped.
		{"=2 +x =2", "-4", true, "-2 =1 -2", api.OK},
		{"-4", "=2 +x =2", true, "+x", api.OK},
		{"-4", "=1 +x =1 +y =1 +z =1", false, "+xyz", api.OK},
		{"=1 -2 =1", "-1 =2 +x -1", true, "+x -2", api.OK},
		{"=1 -2 =1", "-1 =2 +x -1", false, "+x -2", api.OK},
		// What both put at one place, with bytes that one or both drop behind it.
		{"+p", "+q", true, "+q =1", api.OK},
		{"+p", "+q", false, "=1 +q", api.OK},
		{"+p -1 =1", "+q -2", true, "+q =1 -1", api.OK},
		{"+p -1 =1", "+q -2", false, "=1 +q -1", api.OK},
		{"+p -2", "+q -1 =1", false, "=1 +q", api.OK},
		{"=1 +p", "=1 +q", true, "=1 +q =1", api.OK},
		{"", "", true, "", api.OK},
		{"-3", "-3", true, "", api.OK},
		{"=3", "-3", true, "-3", api.OK},
		{"-3", "=3", true, "", api.OK},
	} {
		if got, err := shift.Over(written(c.a), written(c.b), c.first); !slices.Equal(got, written(c.want)) || err != c.err {
			t.Errorf("Over(%s, %s, %v):%s, %d, want %s, %d", c.a, c.b, c.first, told(got), err, c.want, c.err)
		}
	}
}

func TestP14_1ExamplesOfBoth(t *testing.T) {
	for _, c := range []struct {
		a, b, wantA, wantB string
		err                api.Errno
	}{
		{"=2 +xy -1 =3", "=2 +z =4", "=2 +xy =1 -1 =3", "=4 +z =3", api.OK},
		{"=2 +z =4", "=2 +xy -1 =3", "=2 +z =5", "=3 +xy -1 =3", api.OK},
		{"+p", "+q", "+p =1", "=1 +q", api.OK},
		{"=2 +xy -1 =3", "=5", "", "", api.ErrFit},
		{"=2 +xy -1 =3", "=6 =1", "", "", api.ErrDelta},
		{"", "", "", "", api.OK},
	} {
		if a2, b2, err := shift.Both(written(c.a), written(c.b)); !slices.Equal(a2, written(c.wantA)) || !slices.Equal(b2, written(c.wantB)) || err != c.err {
			t.Errorf("Both(%s, %s):%s;%s, %d, want %s; %s, %d", c.a, c.b, told(a2), told(b2), err, c.wantA, c.wantB, c.err)
		}
	}
}

// holdOver holds Over and Both of two deltas of one length against the chapter's words.
func holdOver(t *testing.T, a, b api.Delta) {
	t.Helper()
	for _, first := range []bool{false, true} {
		want := over(a, b, first)
		if got, err := shift.Over(a, b, first); !slices.Equal(got, want) || err != api.OK || !delta.Valid(got) {
			t.Fatalf("Over(%s, %s, %v):%s, %d, want%s", told(a), told(b), first, told(got), err, told(want))
		}
	}
	wantA, wantB := over(b, a, true), over(a, b, false)
	if a2, b2, err := shift.Both(a, b); !slices.Equal(a2, wantA) || !slices.Equal(b2, wantB) || err != api.OK {
		t.Fatalf("Both(%s, %s):%s;%s, %d, want%s;%s", told(a), told(b), told(a2), told(b2), err, told(wantA), told(wantB))
	}
}

// holdMeeting: both orders do the same, and make one text.
func holdMeeting(t *testing.T, a, b api.Delta) {
	t.Helper()
	a2, b2, err := shift.Both(a, b)
	if err != api.OK {
		t.Fatalf("Both(%s, %s): %d", told(a), told(b), err)
	}
	if one, other := composed(t, a, b2), composed(t, b, a2); !slices.Equal(one, other) {
		t.Fatalf("Both(%s, %s):%s and%s", told(a), told(b), told(one), told(other))
	}
	n, _, _ := delta.Lens(a)
	x := distinct(n)
	if one, other := run(t, x, a, b2), run(t, x, b, a2); !bytes.Equal(one, other) {
		t.Fatalf("Both(%s, %s): they make %x and %x", told(a), told(b), one, other)
	}
}

// pairs calls f with every two short canonical deltas of one length.
func pairs(f func(a, b api.Delta)) {
	for n := range 5 {
		sizesA, sizesB := []int{0, 1, 2}, []int{0, 2, 1}
		if n == 4 {
			sizesA, sizesB = []int{0, 2}, []int{0, 1}
		}
		bs := all(n, 'A', sizesB...)
		for _, a := range all(n, 'a', sizesA...) {
			for _, b := range bs {
				f(a, b)
			}
		}
	}
}

func TestP14_1OverOfShortDeltas(t *testing.T) {
	t.Parallel()
	pairs(func(a, b api.Delta) { holdOver(t, a, b) })
}

func TestP14_2ShortDeltasMeet(t *testing.T) {
	t.Parallel()
	pairs(func(a, b api.Delta) { holdMeeting(t, a, b) })
}

func TestP14_1And2LongDeltas(t *testing.T) {
	t.Parallel()
	rng := rand.New(rand.NewSource(14))
	for range 300 {
		n := rng.Intn(2000)
		a, b := byChance(rng, n), byChance(rng, n)
		holdOver(t, a, b)
		holdMeeting(t, a, b)
	}
}

// What a puts stands ahead of what b puts in one place, in both orders; and each stands there whole, once.
func TestP14_2PutsInOnePlace(t *testing.T) {
	a2, b2, _ := shift.Both(written("=1 +aa =1"), written("=1 +bb =1"))
	for _, got := range [][]byte{run(t, []byte("12"), written("=1 +aa =1"), b2), run(t, []byte("12"), written("=1 +bb =1"), a2)} {
		if string(got) != "1aabb2" {
			t.Errorf("they make %s", got)
		}
	}
}

// Over a delta that keeps all a delta is itself; a delta that keeps all is, over another, what keeps all of the new text.
func TestP14_3KeepAll(t *testing.T) {
	t.Parallel()
	ds := []api.Delta{{keep(most)}, {drop(most)}, {put(tooLong()[:most])}, {put(tooLong()[:most]), drop(most)}, {keep(5), put("x"), drop(1), keep(most - 6)}}
	for n := range 6 {
		ds = append(ds, all(n, 'a', 0, 1, 2)...)
	}
	for _, d := range ds {
		from, to, _ := delta.Lens(d)
		ahead, behind := keepAll(from), keepAll(to)
		for _, first := range []bool{false, true} {
			if got, err := shift.Over(ahead, d, first); !slices.Equal(got, d) || err != api.OK {
				t.Fatalf("%s over all kept:%s, %d", told(d), told(got), err)
			}
			if got, err := shift.Over(d, ahead, first); !slices.Equal(got, behind) || err != api.OK {
				t.Fatalf("all kept over%s:%s, %d", told(d), told(got), err)
			}
		}
		if a2, b2, err := shift.Both(d, ahead); !slices.Equal(a2, d) || !slices.Equal(b2, behind) || err != api.OK {
			t.Fatalf("Both(%s, all kept):%s;%s, %d", told(d), told(a2), told(b2), err)
		}
		if a2, b2, err := shift.Both(ahead, d); !slices.Equal(a2, behind) || !slices.Equal(b2, d) || err != api.OK {
			t.Fatalf("Both(all kept, %s):%s;%s, %d", told(d), told(a2), told(b2), err)
		}
		if b2, list, err := shift.Chain([]api.Delta{ahead, ahead, ahead}, d); !slices.Equal(b2, d) || !equalAll(list, []api.Delta{behind, behind, behind}) || err != api.OK {
			t.Fatalf("Chain(all kept, %s):%s;%s, %d", told(d), told(b2), toldAll(list), err)
		}
		if b2, list, err := shift.Chain([]api.Delta{d, behind}, ahead); !slices.Equal(b2, behind) || !equalAll(list, []api.Delta{d, behind}) || err != api.OK {
			t.Fatalf("Chain(%s, all kept):%s;%s, %d", told(d), told(b2), toldAll(list), err)
		}
	}
}

// holdRefused: Over and Both of two, and Chain of one, answer this error and nothing else.
func holdRefused(t *testing.T, a, b api.Delta, want api.Errno) {
	t.Helper()
	for _, first := range []bool{false, true} {
		if got, err := shift.Over(a, b, first); len(got) != 0 || err != want {
			t.Fatalf("Over(%s, %s, %v):%s, %d, want %d", told(a), told(b), first, told(got), err, want)
		}
	}
	if a2, b2, err := shift.Both(a, b); len(a2) != 0 || len(b2) != 0 || err != want {
		t.Fatalf("Both(%s, %s):%s;%s, %d, want %d", told(a), told(b), told(a2), told(b2), err, want)
	}
	if b2, list, err := shift.Chain([]api.Delta{a}, b); len(b2) != 0 || len(list) != 0 || err != want {
		t.Fatalf("Chain(%s, %s):%s;%s, %d, want %d", told(a), told(b), told(b2), toldAll(list), err, want)
	}
}

// What isn't canonical is ErrDelta, at either place, whether the lengths fit or not.
func TestP14_1WrongDeltas(t *testing.T) {
	t.Parallel()
	fine := []api.Delta{nil, keepAll(most)}
	for n := 1; n < 5; n++ {
		fine = append(fine, all(n, 'a', 0, 1)...)
	}
	for _, bad := range wrong() {
		for _, good := range fine {
			holdRefused(t, bad, good, api.ErrDelta)
			holdRefused(t, good, bad, api.ErrDelta)
		}
		holdRefused(t, bad, bad, api.ErrDelta)
	}
}

// Deltas of texts of unlike lengths are ErrFit, also where one's from is the other's to.
func TestP14_1DeltasThatDoNotFit(t *testing.T) {
	t.Parallel()
	for n := range 4 {
		for m := range 4 {
			if n == m {
				continue
			}
			bs := all(m, 'A', 0, 1)
			for _, a := range all(n, 'a', 0, 2) {
				for _, b := range bs {
					holdRefused(t, a, b, api.ErrFit)
				}
			}
		}
	}
}

// What they make together has MaxText bytes, or one more; and a wrong delta, or one that doesn't fit, is told ahead of that.
func TestP14_1OverMaxText(t *testing.T) {
	t.Parallel()
	long := tooLong()
	half := long[:most/2]
	for _, c := range []struct{ a, b api.Delta }{
		{api.Delta{keep(most - 1), put("x")}, api.Delta{keep(most - 1), put("y")}},
		{api.Delta{put("x"), keep(most - 1)}, api.Delta{keep(most - 1), put("y")}},
		{api.Delta{put("x"), drop(1), keep(most - 1)}, api.Delta{put("y"), drop(1), keep(most - 1)}}, // the same byte is dropped by both
		{api.Delta{put("xy"), drop(1), keep(most - 2)}, api.Delta{keep(1), put("z"), keep(most - 2)}},
		{api.Delta{put(long[:most])}, api.Delta{put("y")}},
		{api.Delta{put(long[:most])}, api.Delta{put(long[:most])}},
		{api.Delta{put(half), drop(1)}, api.Delta{put(half + "y"), drop(1)}},
		{api.Delta{put(half)}, api.Delta{put(half + "y")}},
	} {
		holdRefused(t, c.a, c.b, api.ErrLong)
		holdRefused(t, c.b, c.a, api.ErrLong)
		for _, other := range []api.Delta{written("=5"), append(slices.Clone(c.b), keep(most-1))} {
			want := api.ErrFit
			if !delta.Valid(other) {
				want = api.ErrDelta
			}
			holdRefused(t, c.a, other, want)
			holdRefused(t, other, c.a, want)
		}
	}
	for _, c := range []struct{ a, b, wantA, wantB api.Delta }{
		{api.Delta{keep(most - 2), put("x")}, api.Delta{keep(most - 2), put("y")}, api.Delta{keep(most - 2), put("x"), keep(1)}, api.Delta{keep(most - 1), put("y")}},
		{api.Delta{put("x"), drop(1), keep(most - 1)}, api.Delta{keep(1), put("y"), drop(1), keep(most - 2)}, api.Delta{put("x"), drop(1), keep(most - 1)}, api.Delta{keep(1), put("y"), drop(1), keep(most - 2)}},
		{api.Delta{put(half)}, api.Delta{put(half)}, api.Delta{put(half), keep(most / 2)}, api.Delta{keep(most / 2), put(half)}},
		{api.Delta{put(half), drop(most)}, api.Delta{put(half), drop(most)}, api.Delta{put(half), keep(most / 2)}, api.Delta{keep(most / 2), put(half)}},
		{api.Delta{drop(most)}, api.Delta{put(long[:most]), drop(most)}, api.Delta{keep(most)}, api.Delta{put(long[:most])}},
		{api.Delta{drop(1), keep(most - 1)}, api.Delta{keep(most - 1), put("y"), drop(1)}, api.Delta{drop(1), keep(most - 1)}, api.Delta{keep(most - 2), put("y"), drop(1)}},
	} {
		if a2, b2, err := shift.Both(c.a, c.b); !slices.Equal(a2, c.wantA) || !slices.Equal(b2, c.wantB) || err != api.OK {
			t.Errorf("Both(%s, %s):%s;%s, %d, want%s;%s", told(c.a), told(c.b), told(a2), told(b2), err, told(c.wantA), told(c.wantB))
		}
	}
}

// Many operations cost no more than their number.
func TestP14_1ManyOperations(t *testing.T) {
	t.Parallel()
	const n = 1 << 17
	var a, b, wantA, wantB api.Delta
	for range n {
		a = append(a, put("x"), keep(2))
		b = append(b, put("y"), drop(1), keep(1))
		wantA = append(wantA, put("x"), keep(2))
		wantB = append(wantB, keep(1), put("y"), drop(1), keep(1))
	}
	// The Keep of a's next text stands directly behind the one of the last old byte.
	wantB, err := delta.Canon(wantB)
	if err != api.OK {
		t.Fatal(err)
	}
	if a2, b2, err := shift.Both(a, b); !slices.Equal(a2, wantA) || !slices.Equal(b2, wantB) || err != api.OK {
		t.Errorf("Both:%s;%s, %d", told(a2), told(b2), err)
	}
	if got, err := shift.Over(api.Delta{drop(2 * n)}, b, true); !slices.Equal(got, api.Delta{put(strings.Repeat("y", n))}) || err != api.OK {
		t.Errorf("Over:%s, %d", told(got), err)
	}
}
