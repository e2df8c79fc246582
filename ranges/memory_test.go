package ranges_test

import (
	"slices"
	"strings"
	"testing"
	"unsafe"

	"galley/api"
)

// full is a list with its spare room.
func full[T any](list []T) []T { return list[:cap(list)] }

func wipe[T any](list []T, fill T) {
	for i := range full(list) {
		full(list)[i] = fill
	}
}

// spare is a list with room behind it, filled with what must stay.
func spare[T any](list []T, fill T) []T {
	all := slices.Clone(list)
	for range 5 {
		all = append(all, fill)
	}
	return all[:len(list)]
}

// apart holds that no two of the lists share memory, spare room too, and that what keep looks at stays, whatever is written to them.
func apart[T comparable](t *testing.T, fill T, keep func(), lists ...[]T) {
	t.Helper()
	for i, list := range lists {
		var were [][]T
		for _, other := range lists {
			were = append(were, slices.Clone(full(other)))
		}
		wipe(list, fill)
		for j, other := range lists {
			if j != i && !slices.Equal(full(other), were[j]) {
				t.Fatalf("lists %d and %d share memory", i, j)
			}
		}
		keep()
	}
}

// A delta that is handed in stays as it is, spare room too, and isn't kept.
func TestR6AndP16_1Delta(t *testing.T) {
	r, was := made(t, 6, everywhere(6)...)
	for _, s := range []string{"=2 +xy -1 =3", "=6", "-6", "+x -6", "+x =6 +y", "=1 +x =1 +y =1 +z =1 -2", "=7", "=3 =3", "=0", ""} {
		d := spare(written(s), api.Op{Kind: 9, N: 99, Text: "filler"})
		wasD := slices.Clone(full(d))
		got, gone, err := r.Behind(d)
		if !slices.Equal(full(d), wasD) {
			t.Fatalf("Behind(%s): it became%s", s, told(full(d)))
		}
		want, wantGone, wantErr := was.behind(d)
		wipe(d, api.Op{Kind: api.Drop, N: 1, Text: "given"})
		if err != wantErr || !slices.Equal(gone, wantGone) {
			t.Fatalf("Behind(%s): %q, %d, want %q, %d", s, gone, err, wantGone, wantErr)
		}
		if err == api.OK {
			hold(t, got, want)
		}
		hold(t, r, was)
	}
}

// Lists that are answered are new memory, spare room too.
func TestR6AndP16_5Lists(t *testing.T) {
	for _, list := range [][]api.Range{nil, everywhere(1), {holds("a", 0, 1), takes("b", 2, 3), takes("c", 4, 5)}, everywhere(5), many(5)} {
		r, want := made(t, 5, list...)
		stays := func() {
			t.Helper()
			hold(t, r, want)
		}
		apart(t, takes("wiped", -1, -9), stays, r.List(), r.List(), r.Over(0, 5), r.Over(0, 5), r.Over(1, 3), r.Over(2, 2), r.Over(9, 9), r.Over(3, 1))
		apart(t, api.Hit{Lo: -1, Hi: -9}, stays, r.Cover(), r.Cover())
	}
}

// So are the names of those that have gone.
func TestR6AndP16_5Gone(t *testing.T) {
	r, want := made(t, 5, everywhere(5)...)
	rest, gone := behind(t, r, written("=1 -2 =2"))
	wantRest, wantGone, _ := want.behind(written("=1 -2 =2"))
	_, again := behind(t, r, written("=1 -2 =2"))
	_, all := behind(t, r, written("-5"))
	if len(gone) == 0 || !slices.Equal(gone, wantGone) || !slices.Equal(again, wantGone) || len(all) != 60 {
		t.Fatalf("gone: %q and %q, want %q; %d of all", gone, again, wantGone, len(all))
	}
	apart(t, "wiped", func() {
		t.Helper()
		hold(t, r, want)
		hold(t, rest, wantRest)
	}, gone, again, all)
}

// A list that is empty may be nil or empty: of no bytes each is a delta that keeps all.
func TestR5EmptyDeltas(t *testing.T) {
	r, want := made(t, 0)
	for _, d := range []api.Delta{nil, {}, written("=6")[:0]} {
		got, gone := behind(t, r, d)
		if hold(t, got, want); len(gone) != 0 {
			t.Errorf("gone: %q", gone)
		}
	}
}

// A name that is a piece of a long text doesn't keep that text.
func TestR6Names(t *testing.T) {
	long := strings.Repeat("name", 1000)
	r, _ := made(t, 5, holds(long[4:8], 1, 2))
	r = set(t, r, holds(long[8:12], 2, 4))
	r, _ = behind(t, r, written("=5 +x"))
	got, there := r.Get("name")
	if got != holds("name", 2, 4) || !there {
		t.Fatalf("Get:%s, %v", shown(got), there)
	}
	_, gone := behind(t, r, written("-6"))
	first, last := unsafe.StringData(long), unsafe.StringData(long[len(long)-1:])
	for _, name := range append(namesOf(r.List()), got.Name, gone[0]) {
		at := uintptr(unsafe.Pointer(unsafe.StringData(name)))
		if at >= uintptr(unsafe.Pointer(first)) && at <= uintptr(unsafe.Pointer(last)) {
			t.Error("the name is kept as a piece of the text that it was cut out of")
		}
	}
}
