package marks_test

import (
	"fmt"
	"math/rand"
	"slices"
	"testing"

	"galley/api"
	"galley/delta"
	"galley/marks"
	"galley/shift"
)

func behind(t *testing.T, m *marks.Marks, d api.Delta) *marks.Marks {
	t.Helper()
	others, err := m.Behind(d)
	if others == nil || err != api.OK {
		t.Fatalf("Behind(%s): nil: %v, %d", told(d), others == nil, err)
	}
	return others
}

func TestP15_5Examples(t *testing.T) {
	m := abcde(t)
	for _, c := range []struct {
		d       string
		n       int
		l, r, e int
	}{
		{"=2 +xy =3", 7, 2, 4, 7},
		{"=1 -3 =1", 2, 1, 1, 2},
		{"=1 +xyz -2 =2", 6, 1, 4, 6},
		{"=5 +!", 6, 2, 2, 6},
		{"=5", 5, 2, 2, 5},
		{"-5", 0, 0, 0, 0},
		{"+q -5", 1, 0, 1, 1},
	} {
		got := behind(t, m, written(c.d))
		want := []api.Mark{mark("l", c.l, api.Left), mark("r", c.r, api.Right), mark("e", c.e, api.Right)}
		for _, x := range want {
			if y, there := got.Get(x.Name); y != x || !there {
				t.Errorf("Behind(%s), Get:%s, %v, want%s", c.d, shown(y), there, shown(x))
			}
		}
		hold(t, got, model{c.n, want})
	}
	got, err := m.Behind(written("=4"))
	refuses(t, "Behind(=4)", got, err, api.ErrFit)
}

// The document's own example: a mark in the midst of what is put anew.
func TestF4Behind(t *testing.T) {
	m, _ := made(t, 6, mark("l", 3, api.Left), mark("r", 3, api.Right), mark("ahead", 1, api.Right), mark("behind", 6, api.Left))
	want := []api.Mark{mark("ahead", 1, api.Right), mark("l", 2, api.Left), mark("r", 4, api.Right), mark("behind", 5, api.Left)}
	if got := behind(t, m, written("=2 +XY -3 =1")).List(); !slices.Equal(got, want) {
		t.Errorf("List:%s, want%s", shown(got...), shown(want...))
	}
}

// holdBehind holds marks behind a delta against F4, and each of them against shift.Place.
func holdBehind(t *testing.T, m *marks.Marks, was model, d api.Delta) {
	t.Helper()
	got := behind(t, m, d)
	want, _ := was.behind(d)
	hold(t, got, want)
	if _, to, _ := delta.Lens(d); got.Len() != to || len(got.List()) != len(was.list) {
		t.Fatalf("Behind(%s): %d bytes and %d marks, want %d and %d", told(d), got.Len(), len(got.List()), to, len(was.list))
	}
	for _, x := range was.list {
		place, err := shift.Place(d, x.Place, x.Gravity)
		if y, there := got.Get(x.Name); y != mark(x.Name, place, x.Gravity) || !there || err != api.OK {
			t.Fatalf("Behind(%s) of%s:%s, %v, want it at %d, %d", told(d), shown(x), shown(y), there, place, err)
		}
	}
}

// All short canonical deltas, with marks of both gravities at every place.
func TestP15_5ShortDeltas(t *testing.T) {
	t.Parallel()
	short(func(n int, d api.Delta) {
		m, was := made(t, n, everywhere(n)...)
		holdBehind(t, m, was, d)
		hold(t, m, was)
	})
}

// A mark alone goes as it does among others; of no marks only the length is told.
func TestP15_5OneAndNone(t *testing.T) {
	t.Parallel()
	for n := range 4 {
		for _, d := range all(n, 0, 2) {
			m, was := made(t, n)
			holdBehind(t, m, was, d)
			for _, x := range everywhere(n) {
				m, was := made(t, n, x)
				holdBehind(t, m, was, d)
			}
		}
	}
}

// Long deltas, one behind the other, with as many marks as there may be.
func TestP15_5LongDeltas(t *testing.T) {
	t.Parallel()
	rng := rand.New(rand.NewSource(15))
	for range 8 {
		n := rng.Intn(400)
		m, was := made(t, n, many(n)...)
		for range 4 {
			d := byChance(rng, m.Len())
			holdBehind(t, m, was, d)
			m = behind(t, m, d)
			was, _ = was.behind(d)
		}
	}
}

// Texts of MaxText bytes ahead and behind.
func TestP15_5MaxText(t *testing.T) {
	t.Parallel()
	long := tooLong()[:most]
	m, _ := made(t, most, mark("first", 0, api.Left), mark("l", most-1, api.Left), mark("r", most-1, api.Right), mark("last", most, api.Right))
	for _, c := range []struct {
		d                 api.Delta
		n                 int
		first, l, r, last int
	}{
		{api.Delta{keep(most)}, most, 0, most - 1, most - 1, most},
		{api.Delta{drop(most)}, 0, 0, 0, 0, 0},
		{api.Delta{put(long), drop(most)}, most, 0, 0, most, most},
		{api.Delta{put("x"), drop(2), keep(most - 2), put("y")}, most, 0, most - 2, most - 2, most},
		{api.Delta{keep(most - 1), drop(1)}, most - 1, 0, most - 1, most - 1, most - 1},
	} {
		got := behind(t, m, c.d)
		want := []api.Mark{mark("first", c.first, api.Left), mark("l", c.l, api.Left), mark("r", c.r, api.Right), mark("last", c.last, api.Right)}
		hold(t, got, model{c.n, want})
	}
	m, _ = made(t, 0, mark("l", 0, api.Left), mark("r", 0, api.Right))
	hold(t, behind(t, m, api.Delta{put(long)}), model{most, []api.Mark{mark("l", 0, api.Left), mark("r", most, api.Right)}})
	got, err := m.Behind(api.Delta{put(tooLong())})
	refuses(t, "Behind of what is too long", got, err, api.ErrDelta)
}

// What isn't canonical is told ahead of what doesn't fit.
func TestP15_5ErrorsInOrder(t *testing.T) {
	t.Parallel()
	for _, n := range []int{0, 1, 3, 4, most} {
		for _, list := range [][]api.Mark{nil, {mark("a", n, api.Right)}} {
			m, was := made(t, n, list...)
			for _, d := range wrong() {
				got, err := m.Behind(d)
				refuses(t, fmt.Sprintf("Behind(%s) of %d bytes", told(d), n), got, err, api.ErrDelta)
			}
			for _, d := range []api.Delta{written("=2"), written("-2"), written("=5"), written("=1 +xyz =1"), written("+xyz =2"), written("=2 -3 =2"), {keep(most - 1)}, {put("x"), drop(most - 1)}} {
				got, err := m.Behind(d)
				refuses(t, fmt.Sprintf("Behind(%s) of %d bytes", told(d), n), got, err, api.ErrFit)
			}
			hold(t, m, was)
		}
	}
	// One whose to is the length, but not its from; and nothing, of a text of some bytes.
	m, _ := made(t, 3, mark("a", 1, api.Left))
	for _, d := range []api.Delta{written("+xyz"), written("=2 +x"), written("=3 -1"), nil, {}} {
		got, err := m.Behind(d)
		refuses(t, fmt.Sprintf("Behind(%s)", told(d)), got, err, api.ErrFit)
	}
	// Of every length just the deltas of that length.
	short(func(from int, d api.Delta) {
		for n := range 6 {
			m, _ := made(t, n, mark("a", 0, api.Left))
			got, err := m.Behind(d)
			if n == from && (got == nil || err != api.OK) || n != from && (got != nil || err != api.ErrFit) {
				t.Fatalf("Behind(%s) of %d bytes: nil: %v, %d", told(d), n, got == nil, err)
			}
		}
	})
}

// holdOrder: marks of one gravity keep their order behind a delta, and of two at one place the one with Left doesn't come behind the one with Right.
func holdOrder(t *testing.T, m *marks.Marks, d api.Delta) {
	t.Helper()
	got := behind(t, m, d)
	list := m.List()
	for _, x := range list {
		x2, _ := got.Get(x.Name)
		for _, y := range list {
			y2, _ := got.Get(y.Name)
			switch {
			case x.Gravity == y.Gravity && x.Place <= y.Place && x2.Place > y2.Place:
				t.Fatalf("Behind(%s):%s became%s", told(d), shown(x, y), shown(x2, y2))
			case x.Place == y.Place && x.Gravity == api.Left && y.Gravity == api.Right && x2.Place > y2.Place:
				t.Fatalf("Behind(%s):%s became%s", told(d), shown(x, y), shown(x2, y2))
			}
		}
	}
}

func TestP15_6Order(t *testing.T) {
	t.Parallel()
	short(func(n int, d api.Delta) {
		m, _ := made(t, n, everywhere(n)...)
		holdOrder(t, m, d)
	})
	rng := rand.New(rand.NewSource(6))
	for range 20 {
		n := rng.Intn(60)
		m, _ := made(t, n, everywhere(n)...)
		for range 5 {
			d := byChance(rng, m.Len())
			holdOrder(t, m, d)
			m = behind(t, m, d)
		}
	}
}

func TestP15_6OnlyKept(t *testing.T) {
	for _, n := range []int{0, 1, 2, 5, 20} {
		for _, list := range [][]api.Mark{nil, everywhere(n), many(n)} {
			m, was := made(t, n, list...)
			d := api.Delta{keep(n)}[:min(n, 1)]
			got := behind(t, m, d)
			hold(t, got, was)
			if !slices.Equal(got.List(), m.List()) {
				t.Errorf("%d bytes:%s, want%s", n, shown(got.List()...), shown(m.List()...))
			}
		}
	}
	m, was := made(t, most, mark("a", 0, api.Right), mark("b", most, api.Left))
	hold(t, behind(t, m, api.Delta{keep(most)}), was)
}

// Behind of two deltas as one isn't always Behind of the one, then of the other.
func TestP15_6Compose(t *testing.T) {
	m, _ := made(t, 5, mark("r", 1, api.Right))
	a, b := written("=2 +x =3"), written("=1 -1 =4")
	both, err := delta.Compose(a, b)
	if err != api.OK {
		t.Fatalf("Compose: %d", err)
	}
	// One behind the other, x stands behind what the second drops; as one, it stands in the place of that.
	if got, _ := behind(t, behind(t, m, a), b).Get("r"); got != mark("r", 1, api.Right) {
		t.Errorf("one behind the other:%s", shown(got))
	}
	if got, _ := behind(t, m, both).Get("r"); got != mark("r", 2, api.Right) {
		t.Errorf("as one:%s", shown(got))
	}
}
