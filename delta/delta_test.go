package delta_test

import (
	"bytes"
	"fmt"
	"math/rand"
	"slices"
	"strings"
	"testing"

	"galley/api"
	"galley/delta"
)

func TestP13_1ExamplesOfOne(t *testing.T) {
	for s, want := range map[string]bool{
		"=2 +x -1 =3": true, "": true,
		"=2 -1 +x =3": false, "=2 =1": false, "=0": false, "+": false,
	} {
		if got := delta.Valid(written(s)); got != want {
			t.Errorf("Valid(%s): %v", s, got)
		}
	}
	if got, err := delta.Canon(written("=1 =1 -1 +x -0 +y -1 =2")); !slices.Equal(got, written("=2 +xy -2 =2")) || err != api.OK {
		t.Errorf("Canon:%s, %d", told(got), err)
	}
	for _, d := range []api.Delta{{{Kind: 0}}, written("=-1")} {
		if got, err := delta.Canon(d); len(got) != 0 || err != api.ErrDelta {
			t.Errorf("Canon(%s):%s, %d", told(d), told(got), err)
		}
	}
	if from, to, err := delta.Lens(written("=2 +xy -1 =3")); from != 6 || to != 7 || err != api.OK {
		t.Errorf("Lens: %d, %d, %d", from, to, err)
	}
	if got, err := delta.Changes(written("=2 +xy -1 =2 -1")); !slices.Equal(got, []api.Change{{Lo: 2, Hi: 3, Text: "xy"}, {Lo: 5, Hi: 6}}) || err != api.OK {
		t.Errorf("Changes: %v, %d", got, err)
	}
	x := []byte("abcdef")
	if got, err := delta.Apply(x, written("=2 +xy -1 =3")); string(got) != "abxydef" || err != api.OK {
		t.Errorf("Apply: %q, %d", got, err)
	}
	if got, err := delta.Apply(x, written("=5")); len(got) != 0 || err != api.ErrFit {
		t.Errorf("Apply: %q, %d", got, err)
	}
	if got, err := delta.Invert(x, written("=2 +xy -1 =3")); !slices.Equal(got, written("=2 +c -2 =3")) || err != api.OK {
		t.Errorf("Invert:%s, %d", told(got), err)
	}
}

// holdOne holds all calls of one delta of a short text, or of one that isn't canonical, against the model.
func holdOne(t *testing.T, d api.Delta) {
	t.Helper()
	canon, wrong := canonOf(d)
	if got, err := delta.Canon(d); !slices.Equal(got, canon) || err != wrong {
		t.Fatalf("Canon(%s):%s, %d, want%s, %d", told(d), told(got), err, told(canon), wrong)
	}
	valid := canonical(d)
	if got := delta.Valid(d); got != valid {
		t.Fatalf("Valid(%s): %v", told(d), got)
	}
	if valid {
		holdCanonical(t, d)
		return
	}
	if from, to, err := delta.Lens(d); from != 0 || to != 0 || err != api.ErrDelta {
		t.Fatalf("Lens(%s): %d, %d, %d", told(d), from, to, err)
	}
	if got, err := delta.Changes(d); len(got) != 0 || err != api.ErrDelta {
		t.Fatalf("Changes(%s): %v, %d", told(d), got, err)
	}
	for n := range 4 { // one of these may be its from, and it is ErrDelta all the same
		if got, err := delta.Apply(distinct(n), d); len(got) != 0 || err != api.ErrDelta {
			t.Fatalf("Apply(%d bytes, %s): %x, %d", n, told(d), got, err)
		}
		if got, err := delta.Invert(distinct(n), d); len(got) != 0 || err != api.ErrDelta {
			t.Fatalf("Invert(%d bytes, %s):%s, %d", n, told(d), told(got), err)
		}
	}
}

// holdCanonical holds the calls of one canonical delta of a short text.
func holdCanonical(t *testing.T, d api.Delta) {
	t.Helper()
	w := deedDone(d)
	x := distinct(len(w.kept))
	now := do(fresh(x), d)
	if from, to, err := delta.Lens(d); from != len(x) || to != len(now) || err != api.OK {
		t.Fatalf("Lens(%s): %d, %d, %d", told(d), from, to, err)
	}
	if got, err := delta.Changes(d); !slices.Equal(got, changesOf(d)) || err != api.OK {
		t.Fatalf("Changes(%s): %v, %d, want %v", told(d), got, err, changesOf(d))
	}
	for n := range len(x) + 3 {
		want, back, wrong := []byte(nil), api.Delta(nil), api.ErrFit
		if n == len(x) {
			want, back, wrong = bytesOf(now), inverse(x, d), api.OK
		}
		if got, err := delta.Apply(distinct(n), d); !bytes.Equal(got, want) || err != wrong {
			t.Fatalf("Apply(%d bytes, %s): %x, %d, want %x, %d", n, told(d), got, err, want, wrong)
		}
		if got, err := delta.Invert(distinct(n), d); !slices.Equal(got, back) || err != wrong {
			t.Fatalf("Invert(%d bytes, %s):%s, %d, want%s, %d", n, told(d), told(got), err, told(back), wrong)
		}
	}
}

// inverse is the canonical delta of the new text that keeps the kept bytes, drops what was put, and puts what was dropped.
func inverse(x []byte, d api.Delta) api.Delta {
	var back api.Delta
	for _, op := range d {
		switch op.Kind {
		case api.Keep:
			back = append(back, op)
			x = x[op.N:]
		case api.Put:
			back = append(back, drop(len(op.Text)))
		case api.Drop:
			back = append(back, put(string(x[:op.N])))
			x = x[op.N:]
		}
	}
	return deedDone(back).canon()
}

// Every list of up to two operations of each kind, and of kinds that are none, with each number and text, and every list of three of somewhat fewer.
func TestP13_1ShortLists(t *testing.T) {
	t.Parallel()
	var all, some []api.Op
	for _, kind := range []api.OpKind{least, -1, 0, api.Keep, api.Put, api.Drop, 4, greatest} {
		for _, n := range []int{0, 1, 2, -1, least, greatest} {
			for _, text := range []string{"", "x", "\xff\x00"} {
				all = append(all, api.Op{Kind: kind, N: n, Text: text})
				if kind >= 0 && kind <= api.Drop && n != least && text != "x" {
					some = append(some, api.Op{Kind: kind, N: n, Text: text})
				}
			}
		}
	}
	for n := range 3 {
		rows(n, all, func(list []api.Op) { holdOne(t, list) })
	}
	rows(3, some, func(list []api.Op) { holdOne(t, list) })
}

// Longer lists of operations that do nothing, or little: of noughts and empty texts, of neighbours of one kind, and of puts behind drops.
func TestP13_1LongerLists(t *testing.T) {
	t.Parallel()
	rows(4, []api.Op{keep(0), keep(1), keep(2), put(""), put("x"), put("yz"), drop(0), drop(1), drop(2)}, func(list []api.Op) { holdOne(t, list) })
	rows(6, []api.Op{keep(0), keep(1), put("x"), put("yz"), drop(0), drop(1)}, func(list []api.Op) { holdOne(t, list) })
	for _, d := range canonicals(6, 'a') {
		holdCanonical(t, d)
	}
}

// What Canon doesn't look at: N of a Put, Text of a Keep or Drop; but canonical it isn't with these.
func TestP13_1NotLookedAt(t *testing.T) {
	for _, n := range []int{least, -1, 1, api.MaxText + 1, greatest} {
		d := api.Delta{{Kind: api.Keep, N: 1, Text: tooLong()}, {Kind: api.Put, N: n, Text: "x"}, {Kind: api.Drop, N: 2, Text: "y"}}
		if got, err := delta.Canon(d); !slices.Equal(got, written("=1 +x -2")) || err != api.OK {
			t.Errorf("Canon(%s):%s, %d", told(d), told(got), err)
		}
		for i := range d {
			one := written("=1 +x -2")
			one[i] = d[i]
			if delta.Valid(one) {
				t.Errorf("Valid(%s)", told(one))
			}
		}
	}
}

// From and to of MaxText, and of one more; numbers that add up beyond the greatest int, also to a small one.
func TestP13_1MaxText(t *testing.T) {
	t.Parallel()
	const most = api.MaxText
	long := tooLong()
	for _, c := range []struct {
		d        api.Delta
		from, to int
	}{
		{api.Delta{keep(most)}, most, most},
		{api.Delta{drop(most)}, most, 0},
		{api.Delta{put(long[:most])}, 0, most},
		{api.Delta{put(long[:most]), drop(most)}, most, most},
		{api.Delta{keep(1), put(long[:most-1]), drop(most - 1)}, most, most},
		{api.Delta{keep(most - 1), drop(1)}, most, most - 1},
		{api.Delta{keep(most - 1), put("x")}, most - 1, most},
		{api.Delta{drop(most / 2), keep(most / 2), put(long[:most/2])}, most, most},
	} {
		if from, to, err := delta.Lens(c.d); from != c.from || to != c.to || err != api.OK || !delta.Valid(c.d) {
			t.Errorf("Lens(%s): %d, %d, %d", told(c.d), from, to, err)
		}
		if got, err := delta.Canon(c.d); !slices.Equal(got, c.d) || err != api.OK {
			t.Errorf("Canon(%s):%s, %d", told(c.d), told(got), err)
		}
		// One more is refused at each end, by whichever kind it comes.
		for _, op := range []api.Op{keep(1), drop(1), put("x")} {
			for _, d := range []api.Delta{append(slices.Clone(c.d), op), append(api.Delta{op}, c.d...)} {
				want := api.OK
				if tooMuch(d) {
					want = api.ErrLong
				}
				if _, err := delta.Canon(d); err != want {
					t.Errorf("Canon(%s): %d, want %d", told(d), err, want)
				}
				if got := delta.Valid(d); got != canonical(d) {
					t.Errorf("Valid(%s): %v", told(d), got)
				}
			}
		}
	}
	if got, err := delta.Canon(api.Delta{put(long[:most/2]), drop(1), put(long[:most/2])}); len(got) != 2 || got[0].Text != long[:most] || err != api.OK {
		t.Errorf("Canon of two halves:%s, %d", told(got), err)
	}
	for _, d := range []api.Delta{
		{keep(most + 1)}, {drop(most + 1)}, {put(long)}, {keep(greatest)}, {drop(greatest)},
		{keep(greatest), drop(greatest)}, {drop(greatest), keep(greatest), drop(2)},
		{put("x"), drop(greatest), keep(1), drop(greatest), keep(2)},
		{keep(1 << 62), drop(1 << 62), keep(1 << 62), drop(1 << 62), keep(1)},
	} {
		if delta.Valid(d) {
			t.Errorf("Valid(%s)", told(d))
		}
		if got, err := delta.Canon(d); len(got) != 0 || err != api.ErrLong {
			t.Errorf("Canon(%s):%s, %d", told(d), told(got), err)
		}
		if from, to, err := delta.Lens(d); from != 0 || to != 0 || err != api.ErrDelta {
			t.Errorf("Lens(%s): %d, %d, %d", told(d), from, to, err)
		}
		// A kind that is none, or a number below 0, is told ahead of that, wherever it stands.
		for _, op := range []api.Op{{Kind: 0}, {Kind: 4, N: 1}, keep(-1), drop(least)} {
			for _, wrong := range []api.Delta{append(slices.Clone(d), op), append(api.Delta{op}, d...)} {
				if got, err := delta.Canon(wrong); len(got) != 0 || err != api.ErrDelta {
					t.Errorf("Canon(%s):%s, %d", told(wrong), told(got), err)
				}
			}
		}
	}
}

// Bytes of MaxText, and of one more.
func TestP13_1LongBytes(t *testing.T) {
	x := []byte(tooLong())
	d := api.Delta{keep(api.MaxText - 2), put("!"), drop(2)}
	if got, err := delta.Apply(x[:api.MaxText], d); len(got) != api.MaxText-1 || string(got[api.MaxText-3:]) != "x!" || err != api.OK {
		t.Errorf("Apply: %d bytes, %d", len(got), err)
	}
	if got, err := delta.Invert(x[:api.MaxText], d); !slices.Equal(got, api.Delta{keep(api.MaxText - 2), put("xx"), drop(1)}) || err != api.OK {
		t.Errorf("Invert:%s, %d", told(got), err)
	}
	for _, one := range []struct {
		d   api.Delta
		err api.Errno
	}{{d, api.ErrFit}, {api.Delta{keep(api.MaxText + 1)}, api.ErrDelta}, {api.Delta{drop(api.MaxText + 1)}, api.ErrDelta}} {
		if got, err := delta.Apply(x, one.d); len(got) != 0 || err != one.err {
			t.Errorf("Apply of one more: %d bytes, %d", len(got), err)
		}
		if got, err := delta.Invert(x, one.d); len(got) != 0 || err != one.err {
			t.Errorf("Invert of one more:%s, %d", told(got), err)
		}
	}
}

// Canon of what is canonical is it, and it is the one that does the same: of two deltas the Canons are equal just if they do the same.
func TestP13_2Canon(t *testing.T) {
	t.Parallel()
	byDeed, byCanon := map[string]string{}, map[string]string{}
	some := []api.Op{keep(0), keep(1), keep(2), put(""), put("x"), put("xx"), put("y"), drop(0), drop(1), drop(2)}
	for n := range 5 {
		rows(n, some, func(list []api.Op) {
			got, err := delta.Canon(list)
			again, errAgain := delta.Canon(got)
			if err != api.OK || errAgain != api.OK || !slices.Equal(got, again) || !canonical(got) || !delta.Valid(got) {
				t.Fatalf("Canon(%s):%s, %d; again%s, %d", told(list), told(got), err, told(again), errAgain)
			}
			if !canonical(list) == slices.Equal(got, list) {
				t.Fatalf("Canon(%s):%s", told(list), told(got))
			}
			does, canon := deedDone(list).key(), told(got)
			if other, ok := byDeed[does]; ok && other != canon {
				t.Fatalf("%s and %s do the same: %s", canon, other, does)
			}
			if other, ok := byCanon[canon]; ok && other != does {
				t.Fatalf("%s does %s and %s", canon, does, other)
			}
			byDeed[does], byCanon[canon] = canon, does
		})
	}
}

func TestP13_2OfChanges(t *testing.T) {
	t.Parallel()
	for _, d := range canonicals(7, 'a') {
		from, _, _ := delta.Lens(d)
		cs, _ := delta.Changes(d)
		if got, err := delta.Of(from, cs); !slices.Equal(got, d) || err != api.OK {
			t.Fatalf("Of(%d, %v):%s, %d, want%s", from, cs, told(got), err, told(d))
		}
	}
	for _, d := range []api.Delta{
		{keep(api.MaxText)}, {drop(api.MaxText)}, {put(tooLong()[:api.MaxText]), drop(api.MaxText)},
		{drop(1), keep(api.MaxText - 2), put("x"), drop(1)},
	} {
		cs, _ := delta.Changes(d)
		from, _, _ := delta.Lens(d)
		if got, err := delta.Of(from, cs); !slices.Equal(got, d) || err != api.OK {
			t.Errorf("Of(%d, %v changes):%s, %d", from, len(cs), told(got), err)
		}
	}
}

// byChance is a delta of n bytes of many operations of all kinds, also of such as do nothing.
func byChance(rng *rand.Rand, n int) api.Delta {
	var d api.Delta
	for at := 0; at < n; {
		size := min(rng.Intn(9), n-at)
		switch rng.Intn(3) {
		case 0:
			d = append(d, keep(size))
			at += size
		case 1:
			d = append(d, drop(size))
			at += size
		case 2:
			d = append(d, put(strings.Repeat(fmt.Sprint(rng.Intn(10)), size)))
		}
	}
	return append(d, put(fmt.Sprint(rng.Intn(10))))
}

// Long deltas: Canon does what the list does; Apply, Changes, Of and Invert are at one with it.
func TestP13_1And2And4LongDeltas(t *testing.T) {
	t.Parallel()
	rng := rand.New(rand.NewSource(13))
	for range 200 {
		n := rng.Intn(5000)
		x := make([]byte, n)
		rng.Read(x)
		list := byChance(rng, n)
		d, err := delta.Canon(list)
		now := do(fresh(x), list)
		if err != api.OK || !canonical(d) || !slices.Equal(do(fresh(x), d), now) {
			t.Fatalf("Canon(%s):%s, %d", told(list), told(d), err)
		}
		if got, err := delta.Apply(x, d); !bytes.Equal(got, bytesOf(now)) || err != api.OK {
			t.Fatalf("Apply(%s): %d bytes, %d", told(d), len(got), err)
		}
		cs, err := delta.Changes(d)
		if !slices.Equal(cs, changesOf(d)) || err != api.OK {
			t.Fatalf("Changes(%s): %d, %d", told(d), len(cs), err)
		}
		if got, err := delta.Of(n, cs); !slices.Equal(got, d) || err != api.OK {
			t.Fatalf("Of(%d, %d changes):%s, %d, want%s", n, len(cs), told(got), err, told(d))
		}
		back, err := delta.Invert(x, d)
		if got, errBack := delta.Apply(bytesOf(now), back); !bytes.Equal(got, x) || err != api.OK || errBack != api.OK {
			t.Fatalf("Invert(%s):%s, %d, %d", told(d), told(back), err, errBack)
		}
	}
}

// Many operations between two kept bytes cost no more than many elsewhere.
func TestP13_1ManyOperations(t *testing.T) {
	t.Parallel()
	const n = 1 << 18
	var d api.Delta
	for range n {
		d = append(d, put("x"), drop(1), keep(0))
	}
	if got, err := delta.Canon(d); !slices.Equal(got, api.Delta{put(strings.Repeat("x", n)), drop(n)}) || err != api.OK {
		t.Errorf("Canon:%s, %d", told(got), err)
	}
	cs := make([]api.Change, n)
	for i := range cs {
		cs[i] = api.Change{Lo: i, Hi: i + 1, Text: "x"}
	}
	if got, err := delta.Of(n, cs); !slices.Equal(got, api.Delta{put(strings.Repeat("x", n)), drop(n)}) || err != api.OK {
		t.Errorf("Of:%s, %d", told(got), err)
	}
	var a, b api.Delta
	for range n {
		a = append(a, put("ab"), keep(1))
		b = append(b, keep(1), put("c"), drop(2))
	}
	if got, err := delta.Compose(a, b); !slices.Equal(got, api.Delta{put(strings.Repeat("ac", n)), drop(n)}) || err != api.OK {
		t.Errorf("Compose:%s, %d", told(got), err)
	}
}
