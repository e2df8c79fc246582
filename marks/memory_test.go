package marks_test

import (
	"slices"
	"strings"
	"testing"
	"unsafe"

	"galley/api"
)

// full is a list with its spare room.
func full[T any](list []T) []T { return list[:cap(list)] }

func wipe[T any](list []T, fill T) {
	for i := range full(list) {
		full(list)[i] = fill
	}
}

// spare is a list with room behind it, filled with what must stay.
func spare[T any](list []T, fill T) []T {
	all := slices.Clone(list)
	for range 5 {
		all = append(all, fill)
	}
	return all[:len(list)]
}

// A delta that is handed in stays as it is, spare room too, and isn't kept.
func TestR6AndP15_5Delta(t *testing.T) {
	m, was := made(t, 6, everywhere(6)...)
	for _, s := range []string{"=2 +xy -1 =3", "=6", "-6", "+x -6", "+x =6 +y", "=1 +x =1 +y =1 +z =1 -2", "=7", "=3 =3", "=0", ""} {
		d := spare(written(s), api.Op{Kind: 9, N: 99, Text: "filler"})
		wasD := slices.Clone(full(d))
		got, err := m.Behind(d)
		if !slices.Equal(full(d), wasD) {
			t.Fatalf("Behind(%s): it became%s", s, told(full(d)))
		}
		want, wantErr := was.behind(d)
		wipe(d, api.Op{Kind: api.Drop, N: 1, Text: "given"})
		if err != wantErr {
			t.Fatalf("Behind(%s): %d, want %d", s, err, wantErr)
		}
		if err == api.OK {
			hold(t, got, want)
		}
		hold(t, m, was)
	}
}

// Lists that are answered are new memory, spare room too.
func TestR6AndP15_4Lists(t *testing.T) {
	for _, marked := range [][]api.Mark{nil, everywhere(0), everywhere(1), everywhere(5), many(5)} {
		m, want := made(t, 5, marked...)
		lists := [][]api.Mark{m.List(), m.List(), m.Between(0, 5), m.Between(0, 5), m.Between(1, 3), m.Between(9, 9), m.Between(3, 1)}
		for i, list := range lists {
			var were [][]api.Mark
			for _, other := range lists {
				were = append(were, slices.Clone(full(other)))
			}
			wipe(list, mark("wiped", -1, 9))
			for j, other := range lists {
				if j != i && !slices.Equal(full(other), were[j]) {
					t.Fatalf("lists %d and %d share memory", i, j)
				}
			}
			hold(t, m, want)
		}
	}
}

// A list that is empty may be nil or empty: of no bytes each is a delta that keeps all.
func TestR5EmptyDeltas(t *testing.T) {
	m, want := made(t, 0, everywhere(0)...)
	for _, d := range []api.Delta{nil, {}, written("=6")[:0]} {
		hold(t, behind(t, m, d), want)
	}
}

// A name that is a piece of a long text doesn't keep that text.
func TestR6Names(t *testing.T) {
	long := strings.Repeat("name", 1000)
	m, _ := made(t, 5, mark(long[4:8], 1, api.Left))
	m = set(t, m, mark(long[8:12], 2, api.Left))
	m = behind(t, m, written("=5 +x"))
	got, there := m.Get("name")
	if got != mark("name", 2, api.Left) || !there {
		t.Fatalf("Get:%s, %v", shown(got), there)
	}
	first, last := unsafe.StringData(long), unsafe.StringData(long[len(long)-1:])
	for _, x := range append(m.List(), got) {
		at := uintptr(unsafe.Pointer(unsafe.StringData(x.Name)))
		if at >= uintptr(unsafe.Pointer(first)) && at <= uintptr(unsafe.Pointer(last)) {
			t.Error("the name is kept as a piece of the text that it was cut out of")
		}
	}
}
