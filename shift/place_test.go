package shift_test

import (
	"math/rand"
	"testing"

	"galley/api"
	"galley/delta"
	"galley/shift"
)

var gravities = []api.Gravity{api.Left, api.Right}

func TestP14_1ExamplesOfPlace(t *testing.T) {
	a := written("=2 +xy -1 =3")
	for _, c := range []struct {
		place, left, right int
		err                api.Errno
	}{
		{0, 0, 0, api.OK}, {1, 1, 1, api.OK}, {2, 2, 4, api.OK}, {3, 2, 4, api.OK}, {4, 5, 5, api.OK}, {6, 7, 7, api.OK},
		{7, 0, 0, api.ErrRange}, {-1, 0, 0, api.ErrRange},
	} {
		left, errLeft := shift.Place(a, c.place, api.Left)
		right, errRight := shift.Place(a, c.place, api.Right)
		if left != c.left || right != c.right || errLeft != c.err || errRight != c.err {
			t.Errorf("Place(%d): %d, %d and %d, %d, want %d and %d, %d", c.place, left, errLeft, right, errRight, c.left, c.right, c.err)
		}
	}
	if got, err := shift.Place(a, 0, 3); got != 0 || err != api.ErrRange {
		t.Errorf("Place(0, 3): %d, %d", got, err)
	}
}

// A mark at 3 of six bytes, behind two that are put in the place of its neighbours (F4).
func TestF4Place(t *testing.T) {
	d := written("=2 +XY -3 =1")
	for place, want := range [][2]int{{0, 0}, {1, 1}, {2, 4}, {2, 4}, {2, 4}, {2, 4}, {5, 5}} {
		for i, g := range gravities {
			if got, err := shift.Place(d, place, g); got != want[i] || err != api.OK {
				t.Errorf("Place(%d, %d): %d, %d, want %d", place, g, got, err, want[i])
			}
		}
	}
}

// holdPlaces holds Place at every place of a delta, and beside them.
func holdPlaces(t *testing.T, d api.Delta) {
	t.Helper()
	f := fateOf(d)
	n := len(f.drops)
	for place := range n + 1 {
		for _, g := range gravities {
			if got, err := shift.Place(d, place, g); got != f.place(place, g) || err != api.OK {
				t.Fatalf("Place(%s, %d, %d): %d, %d, want %d", told(d), place, g, got, err, f.place(place, g))
			}
		}
		for _, g := range []api.Gravity{least, -2, -1, 0, 3, 4, greatest} {
			if got, err := shift.Place(d, place, g); got != 0 || err != api.ErrRange {
				t.Fatalf("Place(%s, %d, %d): %d, %d", told(d), place, g, got, err)
			}
		}
	}
	for _, place := range []int{least, -2, -1, n + 1, n + 2, greatest} {
		for _, g := range []api.Gravity{api.Left, api.Right, 0, 3} {
			if got, err := shift.Place(d, place, g); got != 0 || err != api.ErrRange {
				t.Fatalf("Place(%s, %d, %d): %d, %d", told(d), place, g, got, err)
			}
		}
	}
}

// Every place of all short canonical deltas, with both gravities, and what is no place or no gravity.
func TestP14_1PlacesOfShortDeltas(t *testing.T) {
	t.Parallel()
	for n := range 5 {
		for _, d := range all(n, 'a', 0, 1, 2) {
			holdPlaces(t, d)
		}
	}
	for _, d := range all(7, 'a', 0, 1) {
		holdPlaces(t, d)
	}
}

// What isn't canonical is told ahead of what is no place, or no gravity.
func TestP14_1PlaceErrorsInOrder(t *testing.T) {
	for _, d := range wrong() {
		for _, place := range []int{least, -1, 0, 1, 3, 4, greatest} {
			for _, g := range []api.Gravity{api.Left, api.Right, 0, 3, -1} {
				if got, err := shift.Place(d, place, g); got != 0 || err != api.ErrDelta {
					t.Fatalf("Place(%s, %d, %d): %d, %d", told(d), place, g, got, err)
				}
			}
		}
	}
}

// Texts of MaxText bytes ahead and behind.
func TestP14_1PlaceMaxText(t *testing.T) {
	t.Parallel()
	long := tooLong()[:most]
	for _, c := range []struct {
		d           api.Delta
		place       int
		left, right int
	}{
		{api.Delta{keep(most)}, most, most, most},
		{api.Delta{drop(most)}, most, 0, 0},
		{api.Delta{drop(most)}, most / 2, 0, 0},
		{api.Delta{put(long)}, 0, 0, most},
		{api.Delta{put(long), drop(most)}, most - 1, 0, most},
		{api.Delta{drop(1), keep(most - 1), put("x")}, most, most - 1, most},
		{api.Delta{put("x"), drop(2), keep(most - 2), put("y")}, most - 1, most - 2, most - 2},
	} {
		left, errLeft := shift.Place(c.d, c.place, api.Left)
		right, errRight := shift.Place(c.d, c.place, api.Right)
		if left != c.left || right != c.right || errLeft != api.OK || errRight != api.OK {
			t.Errorf("Place(%s, %d): %d, %d and %d, %d", told(c.d), c.place, left, errLeft, right, errRight)
		}
	}
	if got, err := shift.Place(api.Delta{keep(most)}, most+1, api.Left); got != 0 || err != api.ErrRange {
		t.Errorf("Place: %d, %d", got, err)
	}
}

// Long deltas, at every place.
func TestP14_1And4PlacesOfLongDeltas(t *testing.T) {
	t.Parallel()
	rng := rand.New(rand.NewSource(14))
	for range 30 {
		d := byChance(rng, rng.Intn(400))
		holdPlaces(t, d)
		holdRising(t, d)
	}
}

// holdRising: of places that rise Place rises or stays, Left is at most Right, and both are places of the new text.
func holdRising(t *testing.T, d api.Delta) {
	t.Helper()
	from, to, _ := delta.Lens(d)
	lastLeft, lastRight := 0, 0
	for place := range from + 1 {
		left, errLeft := shift.Place(d, place, api.Left)
		right, errRight := shift.Place(d, place, api.Right)
		if errLeft != api.OK || errRight != api.OK || left < lastLeft || right < lastRight || left > right || right > to {
			t.Fatalf("Place(%s, %d): %d and %d, behind %d and %d, of %d", told(d), place, left, right, lastLeft, lastRight, to)
		}
		lastLeft, lastRight = left, right
	}
	if lastRight != to {
		t.Fatalf("Place(%s, %d): %d, want the end, %d", told(d), from, lastRight, to)
	}
}

func TestP14_4PlaceDoesNotFall(t *testing.T) {
	t.Parallel()
	for n := range 5 {
		for _, d := range all(n, 'a', 0, 1, 2) {
			holdRising(t, d)
		}
	}
}

// holdThrough: Place through a and then through what b is over a, with one gravity, is from Left to Right through both as one.
func holdThrough(t *testing.T, a, b api.Delta) {
	t.Helper()
	from, _, _ := delta.Lens(a)
	for _, first := range []bool{false, true} {
		b2, err := shift.Over(a, b, first)
		if err != api.OK {
			t.Fatalf("Over(%s, %s): %d", told(a), told(b), err)
		}
		both := composed(t, a, b2)
		for place := range from + 1 {
			left, _ := shift.Place(both, place, api.Left)
			right, _ := shift.Place(both, place, api.Right)
			for _, g := range gravities {
				between, errOne := shift.Place(a, place, g)
				got, errTwo := shift.Place(b2, between, g)
				if errOne != api.OK || errTwo != api.OK || got < left || got > right {
					t.Fatalf("%d through%s and%s: %d, %d, %d, want from %d to %d", place, told(a), told(b2), got, errOne, errTwo, left, right)
				}
			}
		}
	}
}

func TestP14_4PlaceThroughTwo(t *testing.T) {
	t.Parallel()
	for n := range 4 {
		bs := all(n, 'A', 0, 1)
		for _, a := range all(n, 'a', 0, 2) {
			for _, b := range bs {
				holdThrough(t, a, b)
			}
		}
	}
	rng := rand.New(rand.NewSource(41))
	for range 50 {
		n := rng.Intn(60)
		holdThrough(t, byChance(rng, n), byChance(rng, n))
	}
}
