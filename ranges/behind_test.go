package ranges_test

import (
	"math/rand"
	"slices"
	"strings"
	"testing"

	"galley/api"
	"galley/delta"
	"galley/ranges"
	"galley/rule"
	"galley/shift"
)

func behind(t *testing.T, r *ranges.Ranges, d api.Delta) (*ranges.Ranges, []string) {
	t.Helper()
	others, gone, err := r.Behind(d)
	if others == nil || err != api.OK {
		t.Fatalf("Behind(%s): nil: %v, %d", told(d), others == nil, err)
	}
	return others, gone
}

func TestP16_1BehindExamples(t *testing.T) {
	r := abc(t)
	for _, c := range []struct {
		d    string
		n    int
		want []api.Range
		gone []string
	}{
		{"=2 +xy =8", 12, []api.Range{holds("a", 4, 7), takes("b", 6, 10), holds("c", 10, 11)}, nil},
		{"=4 +x =6", 11, []api.Range{holds("a", 2, 6), takes("b", 4, 9), holds("c", 9, 10)}, nil},
		{"=8 +x =2", 11, []api.Range{holds("a", 2, 5), takes("b", 4, 9), holds("c", 9, 10)}, nil},
		{"=2 -3 =5", 7, []api.Range{takes("b", 2, 5), holds("c", 5, 6)}, []string{"a"}},
		{"=10", 10, []api.Range{holds("a", 2, 5), takes("b", 4, 8), holds("c", 8, 9)}, nil},
		{"-10", 0, nil, []string{"a", "b", "c"}},
		{"+q -10", 1, []api.Range{takes("b", 0, 1)}, []string{"a", "c"}},
		{"=8 -1 =1", 9, []api.Range{holds("a", 2, 5), takes("b", 4, 8)}, []string{"c"}},
	} {
		got, gone := behind(t, r, written(c.d))
		if !slices.Equal(gone, c.gone) {
			t.Errorf("Behind(%s): gone: %q, want %q", c.d, gone, c.gone)
		}
		hold(t, got, model{c.n, c.want})
		for _, name := range gone {
			if x, there := got.Get(name); x != (api.Range{}) || there {
				t.Errorf("Behind(%s), Get(%s):%s, %v", c.d, name, shown(x), there)
			}
		}
	}
	refusesBehind(t, r, written("=9"), api.ErrFit)
}

// holdBehind holds ranges behind a delta against F4, and each of them against shift.Place.
func holdBehind(t *testing.T, r *ranges.Ranges, was model, d api.Delta) {
	t.Helper()
	got, gone := behind(t, r, d)
	want, wantGone, _ := was.behind(d)
	hold(t, got, want)
	if !slices.Equal(gone, wantGone) {
		t.Fatalf("Behind(%s): gone: %q, want %q", told(d), gone, wantGone)
	}
	if _, to, _ := delta.Lens(d); got.Len() != to || len(got.List())+len(gone) != len(was.list) {
		t.Fatalf("Behind(%s): %d bytes, %d are there and %d have gone, want %d bytes and %d in all", told(d), got.Len(), len(got.List()), len(gone), to, len(was.list))
	}
	for _, x := range was.list {
		lo, _ := shift.Place(d, x.Lo, x.Start)
		hi, _ := shift.Place(d, x.Hi, x.End)
		y, there := got.Get(x.Name)
		if lo < hi {
			x.Lo, x.Hi = lo, hi
		} else {
			x = api.Range{}
		}
		if y != x || there != (lo < hi) {
			t.Fatalf("Behind(%s):%s, %v, want%s: from %d to %d", told(d), shown(y), there, shown(x), lo, hi)
		}
	}
}

// All short canonical deltas, with ranges of all four pairs of gravities at every two places.
func TestP16_1BehindShortDeltas(t *testing.T) {
	t.Parallel()
	r, was := made(t, 0)
	short(func(n int, d api.Delta) {
		if n != r.Len() {
			hold(t, r, was)
			r, was = made(t, n, everywhere(n)...)
		}
		holdBehind(t, r, was, d)
	})
	hold(t, r, was)
}

// A range alone goes as it does among others; of no ranges only the length is told.
func TestP16_1BehindOneAndNone(t *testing.T) {
	t.Parallel()
	for n := range 4 {
		for _, d := range all(n, 0, 2) {
			r, was := made(t, n)
			holdBehind(t, r, was, d)
			for _, x := range everywhere(n) {
				r, was := made(t, n, x)
				holdBehind(t, r, was, d)
			}
		}
	}
}

// Long deltas, one behind the other, with as many ranges as there may be at the first one.
func TestP16_1BehindLongDeltas(t *testing.T) {
	t.Parallel()
	rng := rand.New(rand.NewSource(16))
	for range 6 {
		n := 1 + rng.Intn(400)
		r, was := made(t, n, many(n)...)
		for range 4 {
			d := byChance(rng, r.Len())
			holdBehind(t, r, was, d)
			r, _ = behind(t, r, d)
			was, _, _ = was.behind(d)
		}
	}
}

// The names of those that have gone rise, byte by byte, wherever the ranges were and in whatever order they were set.
func TestP16_1BehindGoneRise(t *testing.T) {
	rng := rand.New(rand.NewSource(116))
	for range 50 {
		var list []api.Range
		for i, j := range rng.Perm(len(rising)) {
			lo := 1 + (i+j)%5
			list = append(list, of(rising[j], lo, lo+1+j%(6-lo), rng.Intn(4)))
		}
		list = append(list, takes("ahead", 0, 1), takes("behind", 6, 8), takes("all", 0, 8), holds("at", 0, 2))
		rng.Shuffle(len(list), func(i, j int) { list[i], list[j] = list[j], list[i] })
		r, _ := made(t, 8, list...)
		got, gone := behind(t, r, written("=1 -5 =2"))
		if !slices.Equal(gone, rising) {
			t.Fatalf("gone: %q, want %q", gone, rising)
		}
		hold(t, got, model{3, []api.Range{takes("ahead", 0, 1), holds("at", 0, 1), takes("all", 0, 3), takes("behind", 1, 3)}})
	}
}

// Texts of MaxText bytes ahead and behind.
func TestP16_1BehindMaxText(t *testing.T) {
	t.Parallel()
	long := tooLong()[:most]
	r, _ := made(t, most, holds("first", 0, 1), takes("last", most-1, most), holds("whole", 0, most))
	for _, c := range []struct {
		d    api.Delta
		n    int
		want []api.Range
		gone []string
	}{
		{api.Delta{keep(most)}, most, []api.Range{holds("first", 0, 1), holds("whole", 0, most), takes("last", most-1, most)}, nil},
		{api.Delta{drop(most)}, 0, nil, []string{"first", "last", "whole"}},
		{api.Delta{put(long), drop(most)}, most, []api.Range{takes("last", 0, most)}, []string{"first", "whole"}},
		{api.Delta{put("x"), drop(2), keep(most - 2), put("y")}, most, []api.Range{holds("whole", 1, most-1), takes("last", most-2, most)}, []string{"first"}},
		{api.Delta{keep(most - 1), drop(1)}, most - 1, []api.Range{holds("first", 0, 1), holds("whole", 0, most-1)}, []string{"last"}},
	} {
		got, gone := behind(t, r, c.d)
		if !slices.Equal(gone, c.gone) {
			t.Errorf("Behind(%s): gone: %q, want %q", told(c.d), gone, c.gone)
		}
		hold(t, got, model{c.n, c.want})
	}
	r, _ = made(t, 1, holds("h", 0, 1), takes("t", 0, 1))
	got, gone := behind(t, r, api.Delta{keep(1), put(long[1:])})
	if hold(t, got, model{most, []api.Range{holds("h", 0, 1), takes("t", 0, most)}}); len(gone) != 0 {
		t.Errorf("gone: %q", gone)
	}
	refusesBehind(t, r, api.Delta{put(tooLong()), drop(1)}, api.ErrDelta)
}

// What isn't canonical is told ahead of what doesn't fit.
func TestP16_1BehindErrorsInOrder(t *testing.T) {
	t.Parallel()
	for _, n := range []int{0, 1, 3, 4, most} {
		var list []api.Range
		if n > 0 {
			list = []api.Range{takes("a", 0, n), holds("b", n-1, n)}
		}
		for _, list := range [][]api.Range{nil, list} {
			r, was := made(t, n, list...)
			for _, d := range wrong() {
				refusesBehind(t, r, d, api.ErrDelta)
			}
			for _, d := range []api.Delta{written("=2"), written("-2"), written("=5"), written("=1 +xyz =1"), written("+xyz =2"), written("=2 -3 =2"), {keep(most - 1)}, {put("x"), drop(most - 1)}} {
				refusesBehind(t, r, d, api.ErrFit)
			}
			hold(t, r, was)
		}
	}
	// One whose to is the length, but not its from; and nothing, of a text of some bytes.
	r, _ := made(t, 3, takes("a", 1, 2))
	for _, d := range []api.Delta{written("+xyz"), written("=2 +x"), written("=3 -1"), nil, {}} {
		refusesBehind(t, r, d, api.ErrFit)
	}
}

// Of every length just the deltas of that length.
func TestP16_1BehindFits(t *testing.T) {
	t.Parallel()
	var texts []*ranges.Ranges
	for n := range 8 {
		r, _ := made(t, n, everywhere(min(n, 2))...)
		texts = append(texts, r)
	}
	short(func(from int, d api.Delta) {
		for n, r := range texts {
			if n == from {
				behind(t, r, d)
			} else {
				refusesBehind(t, r, d, api.ErrFit)
			}
		}
	})
}

// survivors are those of a range's bytes that a delta keeps. The text is abcd.., so that each byte can be told from the others, and from what is put.
func survivors(x api.Range, f fate) string {
	var b strings.Builder
	for p := x.Lo; p < x.Hi; p++ {
		if !f.drops[p] {
			b.WriteByte(byte('a' + p))
		}
	}
	return b.String()
}

// taken is what a range has behind a delta if it takes in what is put at its ends: all that the changes which touch it put, and its bytes that are kept.
func taken(x api.Range, f fate) string {
	var b strings.Builder
	for p := f.changeLo(x.Lo); p <= x.Hi; p++ {
		b.WriteString(f.puts[p])
		if p >= x.Lo && p < x.Hi && !f.drops[p] {
			b.WriteByte(byte('a' + p))
		}
	}
	return b.String()
}

// heldOn is what a range has behind a delta if it holds on to its bytes: what stands from the first that is kept to the last one.
func heldOn(x api.Range, f fate) string {
	rest := survivors(x, f)
	if rest == "" {
		return ""
	}
	whole := taken(x, f)
	return whole[strings.IndexByte(whole, rest[0]) : strings.IndexByte(whole, rest[len(rest)-1])+1]
}

// What the ranges have behind all short deltas, told by the bytes themselves.
func TestP16_3HoldsOnAndTakesIn(t *testing.T) {
	t.Parallel()
	const text = "abcdefg"
	r, list := (*ranges.Ranges)(nil), []api.Range(nil)
	short(func(n int, d api.Delta) {
		if r.Len() != n || r == nil {
			r, _ = made(t, n, everywhere(n)...)
			list = r.List()
		}
		got, gone := behind(t, r, d)
		made, _ := delta.Apply([]byte(text[:n]), d)
		f := fateOf(d)
		for _, x := range list {
			want := heldOn(x, f)
			switch [2]api.Gravity{x.Start, x.End} {
			case [2]api.Gravity{api.Left, api.Right}:
				want = taken(x, f)
			case [2]api.Gravity{api.Right, api.Left}:
			default:
				continue
			}
			y, there := got.Get(x.Name)
			if has := string(made[y.Lo:y.Hi]); has != want || there != (want != "") || there == slices.Contains(gone, x.Name) {
				t.Fatalf("Behind(%s) of%s: %q, %v, want %q; gone: %q", told(d), shown(x), has, there, want, gone)
			}
		}
	})
}

// What is put at the ends of ranges, in their midst, and in their place.
func TestP16_3Ends(t *testing.T) {
	r, _ := made(t, 6, holds("h", 2, 4), takes("t", 2, 4), of("l", 2, 4, 0), of("r", 2, 4, 3))
	for _, c := range []struct {
		d    string
		want [4][2]int // where h, l, r and t are; 0 0: gone
	}{
		{"=2 +xy =4", [4][2]int{{4, 6}, {2, 6}, {4, 6}, {2, 6}}},
		{"=4 +xy =2", [4][2]int{{2, 4}, {2, 4}, {2, 6}, {2, 6}}},
		{"=2 +xy =2 +z =2", [4][2]int{{4, 6}, {2, 6}, {4, 7}, {2, 7}}},
		{"=3 +xy =3", [4][2]int{{2, 6}, {2, 6}, {2, 6}, {2, 6}}},
		{"=1 +xy =5", [4][2]int{{4, 6}, {4, 6}, {4, 6}, {4, 6}}},
		{"=5 +xy =1", [4][2]int{{2, 4}, {2, 4}, {2, 4}, {2, 4}}},
		{"=2 -1 =3", [4][2]int{{2, 3}, {2, 3}, {2, 3}, {2, 3}}},
		{"=2 -2 =2", [4][2]int{{}, {}, {}, {}}},
		{"-6", [4][2]int{{}, {}, {}, {}}},
		{"=2 +xyz -2 =2", [4][2]int{{}, {}, {}, {2, 5}}},
		{"=1 +xyz -4 =1", [4][2]int{{}, {}, {}, {1, 4}}},
		{"=1 +xyz -2 =3", [4][2]int{{4, 5}, {1, 5}, {4, 5}, {1, 5}}},
		{"=3 +xyz -2 =1", [4][2]int{{2, 3}, {2, 3}, {2, 6}, {2, 6}}},
	} {
		got, gone := behind(t, r, written(c.d))
		var wantGone []string
		for i, want := range c.want {
			name := "hlrt"[i : i+1]
			if want[1] == 0 {
				wantGone = append(wantGone, name)
			}
			if x, _ := got.Get(name); x.Lo != want[0] || x.Hi != want[1] {
				t.Errorf("Behind(%s): %s:%s, want %v", c.d, name, shown(x), want)
			}
		}
		if !slices.Equal(gone, wantGone) {
			t.Errorf("Behind(%s): gone: %q, want %q", c.d, gone, wantGone)
		}
	}
}

// A range that has gone doesn't come back when its bytes are put again.
func TestP16_3GoneForGood(t *testing.T) {
	r, _ := made(t, 4, holds("h", 1, 3), takes("t", 1, 3))
	rest, gone := behind(t, r, written("=1 -2 =1"))
	if !slices.Equal(gone, []string{"h", "t"}) {
		t.Fatalf("gone: %q", gone)
	}
	again, gone := behind(t, rest, written("=1 +bc =1"))
	if hold(t, again, model{n: 4}); len(gone) != 0 {
		t.Errorf("gone: %q", gone)
	}
}

func TestP16_4OnlyKept(t *testing.T) {
	for _, n := range []int{0, 1, 2, 5, 20} {
		lists := [][]api.Range{nil, everywhere(min(n, 6))}
		if n > 0 {
			lists = append(lists, many(n))
		}
		for _, list := range lists {
			r, was := made(t, n, list...)
			d := api.Delta{keep(n)}[:min(n, 1)]
			got, gone := behind(t, r, d)
			hold(t, got, was)
			if !slices.Equal(got.List(), r.List()) || len(gone) != 0 {
				t.Errorf("%d bytes:%s, want%s; gone: %q", n, shown(got.List()...), shown(r.List()...), gone)
			}
		}
	}
	r, was := made(t, most, holds("a", 0, 1), takes("b", 1, most))
	got, gone := behind(t, r, api.Delta{keep(most)})
	if hold(t, got, was); len(gone) != 0 {
		t.Errorf("gone: %q", gone)
	}
}

// Ranges are kept by bytes: they may be set inside an encoding, come to stand there, and a ruler tells the floor of them.
func TestF3InsideAStep(t *testing.T) {
	text := []byte("a\u20acb")
	r, _ := made(t, 5, holds("set", 2, 3), holds("moved", 1, 5))
	got, gone := behind(t, r, written("-1 =4"))
	if hold(t, got, model{4, []api.Range{holds("moved", 0, 4), holds("set", 1, 2)}}); len(gone) != 0 {
		t.Errorf("gone: %q", gone)
	}
	d := written("=1 +\xe2 -1 =3") // the first byte of the encoding is put anew: it is an encoding again
	got, _ = behind(t, r, d)
	hold(t, got, model{5, []api.Range{holds("moved", 2, 5), holds("set", 2, 3)}})
	made, _ := delta.Apply(text, d)
	x, _ := got.Get("moved")
	if at, err := rule.To(made, api.Bytes, x.Lo, api.Runes, api.Down); string(made) != string(text) || at != 1 || err != api.OK {
		t.Errorf("%x: %d by runes, %d", made, at, err)
	}
}
