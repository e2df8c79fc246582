package delta_test

import (
	"bytes"
	"math/rand"
	"slices"
	"testing"

	"galley/api"
	"galley/delta"
)

func TestP13_1ExamplesOfCompose(t *testing.T) {
	for _, c := range []struct {
		a, b, want string
		err        api.Errno
	}{
		{"=2 +xy -1 =3", "=3 -2 =2", "=2 +x -2 =2", api.OK},
		{"=2 +xy -1 =3", "=2 +q -5", "=2 +q -4", api.OK},
		{"=2 +xy -1 =3", "=6", "", api.ErrFit},
		{"", "", "", api.OK},
		{"+ab", "-2", "", api.OK},
		{"-2", "+ab", "+ab -2", api.OK},
		{"=1 -1 =1", "=1 +x =1", "=1 +x -1 =1", api.OK},
		{"-1 +x", "=1", "", api.ErrDelta},
	} {
		if got, err := delta.Compose(written(c.a), written(c.b)); !slices.Equal(got, written(c.want)) || err != c.err {
			t.Errorf("Compose(%s, %s):%s, %d, want %s, %d", c.a, c.b, told(got), err, c.want, c.err)
		}
	}
}

// Compose of all short canonical deltas, held against doing them one behind the other; where the lengths don't fit, ErrFit.
func TestP13_1And3ComposeOfTwo(t *testing.T) {
	t.Parallel()
	seconds := byFrom(canonicals(5, 'A'))
	misfits := canonicals(2, 'A')
	for _, a := range canonicals(5, 'a') {
		x := distinct(len(deedDone(a).kept))
		between := do(fresh(x), a)
		for _, b := range seconds[len(between)] {
			now := do(between, b)
			want := deedOf(len(x), now).canon()
			got, err := delta.Compose(a, b)
			if !slices.Equal(got, want) || err != api.OK {
				t.Fatalf("Compose(%s, %s):%s, %d, want%s", told(a), told(b), told(got), err, told(want))
			}
			if y, err := delta.Apply(x, got); !bytes.Equal(y, bytesOf(now)) || err != api.OK {
				t.Fatalf("Compose(%s, %s) makes %x, %d, want %x", told(a), told(b), y, err, bytesOf(now))
			}
		}
		for _, b := range misfits {
			from, _, _ := delta.Lens(b)
			if got, err := delta.Compose(a, b); from != len(between) && (len(got) != 0 || err != api.ErrFit) {
				t.Fatalf("Compose(%s, %s):%s, %d", told(a), told(b), told(got), err)
			}
		}
	}
}

// What isn't canonical is ErrDelta, at either place, whether the lengths fit or not.
func TestP13_1ComposeOfWrongOnes(t *testing.T) {
	t.Parallel()
	wrong := []api.Delta{
		written("=0"), written("=2 =1"), written("-1 +x =2"), written("-1 -2"), written("+"), written("+x +y"), written("=-3"), written("-0 =3"),
		{{Kind: 0, N: 3}}, {{Kind: 4}}, {{Kind: -1, N: 3}}, {{Kind: api.Keep, N: 3, Text: "x"}}, {{Kind: api.Drop, N: 3, Text: "x"}}, {{Kind: api.Put, N: 3, Text: "xyz"}},
		{keep(api.MaxText + 1)}, {keep(greatest), drop(greatest)}, {put(tooLong())}, {keep(api.MaxText), put("x")}, {keep(least)},
	}
	fine := canonicals(3, 'a')
	for _, bad := range wrong {
		for _, good := range fine {
			for _, pair := range [][2]api.Delta{{bad, good}, {good, bad}, {bad, bad}} {
				if got, err := delta.Compose(pair[0], pair[1]); len(got) != 0 || err != api.ErrDelta {
					t.Fatalf("Compose(%s, %s):%s, %d", told(pair[0]), told(pair[1]), told(got), err)
				}
			}
		}
	}
}

// Three short deltas in both orders.
func TestP13_3ComposeIsAssociative(t *testing.T) {
	t.Parallel()
	seconds, thirds := byFrom(canonicals(3, 'A')), byFrom(canonicals(3, '1'))
	n := 0
	for _, a := range canonicals(3, 'a') {
		_, to, _ := delta.Lens(a)
		for _, b := range seconds[to] {
			_, to, _ := delta.Lens(b)
			ab, errAB := delta.Compose(a, b)
			for _, c := range thirds[to] {
				bc, errBC := delta.Compose(b, c)
				one, errOne := delta.Compose(ab, c)
				other, errOther := delta.Compose(a, bc)
				if errAB != api.OK || errBC != api.OK || errOne != api.OK || errOther != api.OK || !slices.Equal(one, other) {
					t.Fatalf("%s;%s;%s:%s, want%s", told(a), told(b), told(c), told(one), told(other))
				}
				n++
			}
		}
	}
	if n < 1000 {
		t.Fatalf("only %d are held", n)
	}
}

// The delta that keeps all, on either side, changes nothing of a delta.
func TestP13_3KeepAll(t *testing.T) {
	t.Parallel()
	all := canonicals(6, 'a')
	for _, d := range append(all,
		api.Delta{keep(api.MaxText)}, api.Delta{drop(api.MaxText)}, api.Delta{put(tooLong()[:api.MaxText])},
		api.Delta{keep(5), put("x"), drop(1), keep(api.MaxText - 6)}) {
		from, to, _ := delta.Lens(d)
		ahead, _ := delta.Of(from, nil)
		behind, _ := delta.Of(to, nil)
		if got, err := delta.Compose(ahead, d); !slices.Equal(got, d) || err != api.OK {
			t.Fatalf("all kept ahead of%s:%s, %d", told(d), told(got), err)
		}
		if got, err := delta.Compose(d, behind); !slices.Equal(got, d) || err != api.OK {
			t.Fatalf("all kept behind%s:%s, %d", told(d), told(got), err)
		}
	}
}

// Long deltas: three one behind the other, in both orders, against doing them.
func TestP13_3LongDeltas(t *testing.T) {
	t.Parallel()
	rng := rand.New(rand.NewSource(31))
	next := func(n int) api.Delta {
		d, err := delta.Canon(byChance(rng, n))
		if err != api.OK {
			t.Fatal(err)
		}
		return d
	}
	for range 150 {
		x := make([]byte, rng.Intn(3000))
		rng.Read(x)
		a := next(len(x))
		one := do(fresh(x), a)
		b := next(len(one))
		two := do(one, b)
		c := next(len(two))
		three := do(two, c)
		ab, errAB := delta.Compose(a, b)
		bc, errBC := delta.Compose(b, c)
		first, errFirst := delta.Compose(ab, c)
		last, errLast := delta.Compose(a, bc)
		if errAB != api.OK || errBC != api.OK || errFirst != api.OK || errLast != api.OK {
			t.Fatal(errAB, errBC, errFirst, errLast)
		}
		if want := deedOf(len(x), two).canon(); !slices.Equal(ab, want) {
			t.Fatalf("Compose:%s, want%s", told(ab), told(want))
		}
		if want := deedOf(len(x), three).canon(); !slices.Equal(first, want) || !slices.Equal(last, want) {
			t.Fatalf("Compose:%s and%s, want%s", told(first), told(last), told(want))
		}
		if y, err := delta.Apply(x, first); !bytes.Equal(y, bytesOf(three)) || err != api.OK {
			t.Fatalf("Apply: %d bytes, %d", len(y), err)
		}
	}
}

// Texts of MaxText bytes ahead, between and behind.
func TestP13_3ComposeMaxText(t *testing.T) {
	t.Parallel()
	const most = api.MaxText
	long := tooLong()[:most]
	for _, c := range []struct{ a, b, want api.Delta }{
		{api.Delta{drop(most)}, api.Delta{put(long)}, api.Delta{put(long), drop(most)}},
		{api.Delta{put(long)}, api.Delta{drop(most)}, nil},
		{api.Delta{put(long), drop(most)}, api.Delta{keep(most - 1), put("y"), drop(1)}, api.Delta{put(long[1:] + "y"), drop(most)}},
		{api.Delta{keep(most)}, api.Delta{put(long), drop(most)}, api.Delta{put(long), drop(most)}},
	} {
		if got, err := delta.Compose(c.a, c.b); !slices.Equal(got, c.want) || err != api.OK {
			t.Errorf("Compose(%s, %s):%s, %d, want%s", told(c.a), told(c.b), told(got), err, told(c.want))
		}
	}
}

// Invert and then Apply, Invert of Invert, Compose with Invert.
func TestP13_4ThereAndBack(t *testing.T) {
	t.Parallel()
	for _, d := range canonicals(6, 'a') {
		w := deedDone(d)
		x := distinct(len(w.kept))
		y, _ := delta.Apply(x, d)
		back, err := delta.Invert(x, d)
		if err != api.OK || !canonical(back) {
			t.Fatalf("Invert(%s):%s, %d", told(d), told(back), err)
		}
		if got, err := delta.Apply(y, back); !bytes.Equal(got, x) || err != api.OK {
			t.Fatalf("%s and then%s: %x, %d, want %x", told(d), told(back), got, err, x)
		}
		if got, err := delta.Invert(y, back); !slices.Equal(got, d) || err != api.OK {
			t.Fatalf("Invert of%s:%s, %d, want%s", told(back), told(got), err, told(d))
		}
		both, err := delta.Compose(d, back)
		if want := sameAgain(x, w.kept); !slices.Equal(both, want) || err != api.OK {
			t.Fatalf("%s and then%s:%s, %d, want%s", told(d), told(back), told(both), err, told(want))
		}
	}
}

// sameAgain is the canonical delta that keeps some of the bytes, and puts in the place of all others the same bytes again.
func sameAgain(x []byte, kept []bool) api.Delta {
	w := deed{kept: kept, writes: []string{""}}
	for i, b := range x {
		if kept[i] {
			w.writes = append(w.writes, "")
		} else {
			w.writes[len(w.writes)-1] += string([]byte{b})
		}
	}
	return w.canon()
}
