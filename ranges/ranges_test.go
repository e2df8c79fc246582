package ranges_test

import (
	"fmt"
	"math/rand"
	"slices"
	"strings"
	"testing"

	"galley/api"
	"galley/ranges"
)

// names are some that may be, many of which are listed in another order if bytes are told apart by their sign, by runes or by length.
var names = []string{
	"a", "ab", "abc", "b", "B", "aa", "a\x00", "a\xff", "\x00", "\x00\x00", "\x7f", "\x80", "\x80\x80", "\xc3", "\xc3\xa9", "\xc3\xa9a", "\xff", "\xff\x00", "\xff\xff",
	"\xef\xbf\xbd", "\U0001F600", "\uffff", "e\u0301", "\r\n", " ", strings.Repeat("a", 64), strings.Repeat("\xff", 64), strings.Repeat("\u00e9", 32), strings.Repeat("\U0001F600", 16),
}

// noNames are some that may not be.
var noNames = []string{
	"", strings.Repeat("a", 65), strings.Repeat("\x00", 65), strings.Repeat("\xff", 65), strings.Repeat("\u00e9", 32) + "a", strings.Repeat("\u00e9", 33), strings.Repeat("\U0001F600", 17), strings.Repeat("a", 128), strings.Repeat("a", 256), strings.Repeat("a", 320), strings.Repeat("a", 1<<16),
}

// rising are names in their order, byte by byte.
var rising = []string{"\x00", "\x00\x00", "B", "a", "a\x00", "aa", "ab", "a\x7f", "a\x80", "a\xff", "b", "\x7f", "\x80", "\xc3", "\xc3\xa9", "\xc3\xa9a", "\xef\xbf\xbf", "\xf0\x9f\x98\x80", "\xff", "\xff\x00", "\xff\xff"}

// named are ranges of these names, here and there in a text of five bytes.
func named() []api.Range {
	var list []api.Range
	for i, name := range names {
		lo := i % 5
		list = append(list, of(name, lo, lo+1+i/5%(5-lo), i%4))
	}
	return list
}

func namesOf(list []api.Range) []string {
	var all []string
	for _, x := range list {
		all = append(all, x.Name)
	}
	return all
}

func TestP16_1New(t *testing.T) {
	for _, n := range []int{least, least + 1, -2, -1, most + 1, most + 2, 1 << 32, greatest} {
		r, err := ranges.New(n)
		refuses(t, fmt.Sprintf("New(%d)", n), r, err, api.ErrRange)
	}
	for _, n := range []int{0, 1, 5, 255, most - 1, most} {
		r, want := made(t, n)
		hold(t, r, want)
		if len(r.List()) != 0 || len(r.Over(least, greatest)) != 0 || len(r.Over(0, 0)) != 0 || len(r.Cover()) != 0 {
			t.Errorf("New(%d): there are ranges", n)
		}
		if x, there := r.Get("a"); x != (api.Range{}) || there {
			t.Errorf("New(%d), Get:%s, %v", n, shown(x), there)
		}
	}
}

// Len is that of the text, whatever is set, dropped and moved.
func TestP16_1Len(t *testing.T) {
	r, _ := made(t, 5, holds("a", 0, 2), takes("b", 1, 5))
	if r.Len() != 5 {
		t.Errorf("Len: %d", r.Len())
	}
	r, _ = r.Drop("b")
	if r.Len() != 5 {
		t.Errorf("Len behind Drop: %d", r.Len())
	}
	for _, c := range []struct {
		d    string
		want int
	}{{"=5", 5}, {"-5", 0}, {"+xyz -5", 3}, {"=2 +xy -1 =2", 6}, {"+x =5 +y", 7}} {
		if others, _, err := r.Behind(written(c.d)); others.Len() != c.want || err != api.OK {
			t.Errorf("Len behind %s: %d, %d, want %d", c.d, others.Len(), err, c.want)
		}
	}
}

// abc are the ranges of the chapter's examples.
func abc(t *testing.T) *ranges.Ranges {
	t.Helper()
	r, _ := made(t, 10, holds("a", 2, 5), takes("b", 4, 8), holds("c", 8, 9))
	return r
}

func TestP16_1Examples(t *testing.T) {
	r := abc(t)
	if got := r.List(); !slices.Equal(got, []api.Range{holds("a", 2, 5), takes("b", 4, 8), holds("c", 8, 9)}) {
		t.Errorf("List:%s", shown(got...))
	}
	for _, c := range []struct {
		lo, hi int
		want   string
	}{{5, 5, "ab"}, {5, 6, "b"}, {8, 8, "bc"}, {6, 5, ""}, {0, 2, ""}, {2, 2, "a"}, {1, 1, ""}, {9, 9, "c"}, {9, 10, ""}, {4, 5, "ab"}, {0, 10, "abc"}, {-9, 99, "abc"}, {99, -9, ""}} {
		if got := strings.Join(namesOf(r.Over(c.lo, c.hi)), ""); got != c.want {
			t.Errorf("Over(%d, %d): %s, want %s", c.lo, c.hi, got, c.want)
		}
	}
	if got := r.Cover(); !slices.Equal(got, []api.Hit{{Lo: 2, Hi: 9}}) {
		t.Errorf("Cover: %v", got)
	}
	for pair := range pairs {
		for _, c := range []struct {
			x    api.Range
			want api.Errno
		}{{of("", 0, 1, pair), api.ErrName}, {of("d", 3, 3, pair), api.ErrRange}, {of("d", 0, 11, pair), api.ErrRange}} {
			got, err := r.Set(c.x)
			refuses(t, fmt.Sprintf("Set(%s)", shown(c.x)), got, err, c.want)
		}
	}
	got, err := r.Drop("d")
	refuses(t, "Drop(d)", got, err, api.ErrMark)
}

// A name is looked at byte by byte: how many there are says whether it may be.
func TestP16_1SetNames(t *testing.T) {
	r, _ := made(t, 5)
	for size := range 300 {
		for _, b := range []string{"a", "\x00", "\x80", "\xff"} {
			x := takes(strings.Repeat(b, size), 1, 3)
			got, err := r.Set(x)
			if size == 0 || size > 64 {
				refuses(t, fmt.Sprintf("Set of a name of %d bytes", size), got, err, api.ErrName)
				continue
			}
			if y, there := got.Get(x.Name); err != api.OK || y != x || !there {
				t.Fatalf("Set of a name of %d bytes: %d,%s, %v", size, err, shown(y), there)
			}
		}
	}
	for b := range 256 {
		x := holds(string([]byte{byte(b)}), 0, 1)
		if got := set(t, r, x).List(); !slices.Equal(got, []api.Range{x}) {
			t.Errorf("Set(%s):%s", shown(x), shown(got...))
		}
	}
	for _, name := range names {
		x := holds(name, 4, 5)
		if got := set(t, r, x).List(); !slices.Equal(got, []api.Range{x}) {
			t.Errorf("Set(%s):%s", shown(x), shown(got...))
		}
	}
	for _, name := range noNames {
		got, err := r.Set(holds(name, 0, 1))
		refuses(t, fmt.Sprintf("Set of a name of %d bytes", len(name)), got, err, api.ErrName)
	}
}

// All single bytes are names of their own, at one time.
func TestP16_1SetNamesOfAllBytes(t *testing.T) {
	var list []api.Range
	for b := range 256 {
		list = append(list, of(string([]byte{byte(b)}), 0, 1, b%4))
	}
	r, want := made(t, 1, list...)
	hold(t, r, want)
	if got := r.List(); !slices.Equal(got, list) {
		t.Errorf("List:%s", shown(got...))
	}
}

// Lo and Hi at all numbers that are an edge of what may be, with all gravities and numbers that are none.
func TestP16_1SetPlacesAndGravities(t *testing.T) {
	gravities := append(slices.Clone(noGravities), api.Left, api.Right)
	for _, n := range []int{0, 1, 5, most} {
		r, was := made(t, n)
		if n > 0 {
			r, was = made(t, n, holds("there", n-1, n))
		}
		places := []int{least, least + 1, -2, -1, 0, 1, n / 2, n - 1, n, n + 1, n + 2, greatest - 1, greatest}
		for _, name := range []string{"a", "there"} {
			for _, lo := range places {
				for _, hi := range places {
					for _, start := range gravities {
						for _, end := range gravities {
							x := api.Range{Name: name, Lo: lo, Hi: hi, Start: start, End: end}
							got, err := r.Set(x)
							want, wantErr := was.set(x)
							if wantErr != api.OK {
								refuses(t, fmt.Sprintf("Set(%s) of %d bytes", shown(x), n), got, err, wantErr)
								continue
							}
							if err != api.OK {
								t.Fatalf("Set(%s) of %d bytes: %d", shown(x), n, err)
							}
							hold(t, got, want)
						}
					}
				}
			}
		}
	}
}

// The edges one by one, so that what may be and what may not doesn't hang on the model.
func TestP16_1SetEdges(t *testing.T) {
	r, _ := made(t, 5)
	for _, c := range [][2]int{{0, 1}, {0, 5}, {4, 5}, {2, 3}} {
		for pair := range pairs {
			set(t, r, of("a", c[0], c[1], pair))
		}
	}
	for _, c := range [][2]int{{0, 0}, {5, 5}, {3, 3}, {3, 2}, {5, 0}, {-1, 0}, {-1, 1}, {-1, 5}, {0, 6}, {4, 6}, {5, 6}, {6, 7}, {least, greatest}, {greatest, least}, {least, 1}, {0, greatest}, {0, least}, {greatest, greatest}, {least, least}, {greatest, 1}} {
		for pair := range pairs {
			got, err := r.Set(of("a", c[0], c[1], pair))
			refuses(t, fmt.Sprintf("Set from %d to %d", c[0], c[1]), got, err, api.ErrRange)
		}
	}
	for _, no := range noGravities {
		for _, x := range []api.Range{{Name: "a", Hi: 1, Start: no, End: api.Left}, {Name: "a", Hi: 1, Start: no, End: api.Right}, {Name: "a", Hi: 1, Start: api.Left, End: no}, {Name: "a", Hi: 1, Start: api.Right, End: no}, {Name: "a", Hi: 1, Start: no, End: no}} {
			got, err := r.Set(x)
			refuses(t, fmt.Sprintf("Set(%s)", shown(x)), got, err, api.ErrRange)
		}
	}
}

// ErrName is told ahead of ErrRange, both ahead of ErrMany.
func TestP16_1SetErrorsInOrder(t *testing.T) {
	few, _ := made(t, 5)
	full, _ := made(t, 5, many(5)...)
	var wrongs []api.Range
	for _, c := range [][2]int{{least, 3}, {-1, 3}, {0, 6}, {0, greatest}, {3, 3}, {4, 2}, {greatest, least}} {
		for pair := range pairs {
			wrongs = append(wrongs, of("", c[0], c[1], pair))
		}
		wrongs = append(wrongs, api.Range{Lo: c[0], Hi: c[1]})
	}
	for _, no := range noGravities {
		wrongs = append(wrongs, api.Range{Hi: 1, Start: no, End: api.Left}, api.Range{Hi: 5, Start: api.Right, End: no}, api.Range{Hi: 5, Start: no, End: no})
	}
	for _, r := range []*ranges.Ranges{few, full} {
		for _, x := range wrongs {
			for _, x.Name = range noNames {
				got, err := r.Set(x)
				refuses(t, fmt.Sprintf("Set from %d to %d, %d %d, of a name of %d bytes", x.Lo, x.Hi, x.Start, x.End, len(x.Name)), got, err, api.ErrName)
			}
			for _, x.Name = range []string{"new", "r0", "r1023"} {
				got, err := r.Set(x)
				refuses(t, fmt.Sprintf("Set(%s)", shown(x)), got, err, api.ErrRange)
			}
		}
		for _, name := range noNames {
			got, err := r.Set(holds(name, 0, 1))
			refuses(t, "Set of no name", got, err, api.ErrName)
		}
	}
}

// MaxMarks may be; one more is refused, but a name that is there is set again; and where one was dropped there is room.
func TestP16_1SetMaxMarks(t *testing.T) {
	list := many(9)
	r, want := made(t, 9, list[:1023]...)
	hold(t, r, want)
	r, want = made(t, 9, list...)
	if len(r.List()) != 1024 {
		t.Fatalf("there are %d", len(r.List()))
	}
	hold(t, r, want)
	for _, name := range names {
		got, err := r.Set(holds(name, 0, 1))
		refuses(t, fmt.Sprintf("Set(%q) of too many", name), got, err, api.ErrMany)
	}
	for _, i := range []int{0, 1, 511, 1023} {
		x := of(list[i].Name, 9-list[i].Hi, 9-list[i].Lo, 3-i%4)
		others := set(t, r, x)
		wantOthers, _ := want.set(x)
		hold(t, others, wantOthers)
		got, err := others.Set(holds("new", 0, 1))
		refuses(t, "Set of too many", got, err, api.ErrMany)
	}
	less, _ := r.Drop("r7")
	again := set(t, less, takes("new", 3, 9))
	wantLess, _ := want.drop("r7")
	wantAgain, _ := wantLess.set(takes("new", 3, 9))
	hold(t, again, wantAgain)
	got, err := again.Set(list[7])
	refuses(t, "Set of the one that was dropped", got, err, api.ErrMany)
	hold(t, r, want)
}

// Those that have gone make room; those that haven't don't.
func TestP16_1SetMaxMarksBehind(t *testing.T) {
	r, want := made(t, 9, many(9)...)
	all, gone := behind(t, r, written("+x =9"))
	got, err := all.Set(holds("new", 0, 1))
	if refuses(t, "Set of too many behind a delta", got, err, api.ErrMany); len(gone) != 0 {
		t.Fatalf("gone: %q", gone)
	}
	rest, gone := behind(t, r, written("=8 -1"))
	if len(gone) == 0 || len(rest.List()) != 1024-len(gone) {
		t.Fatalf("%d have gone, %d are there", len(gone), len(rest.List()))
	}
	for i := range gone {
		rest = set(t, rest, holds(fmt.Sprint("new", i), 0, 1))
	}
	got, err = rest.Set(holds("new", 0, 1))
	refuses(t, "Set of one more than have gone", got, err, api.ErrMany)
	hold(t, r, want)
}

// The range that had the name is no more; all others stay.
func TestP16_1SetAgain(t *testing.T) {
	list := []api.Range{holds("a", 1, 2), holds("b", 2, 4), takes("c", 2, 4)}
	r, _ := made(t, 5, list...)
	for _, x := range []api.Range{holds("b", 2, 4), takes("b", 2, 4), of("b", 2, 4, 0), holds("b", 0, 4), holds("b", 2, 5), takes("b", 0, 5), takes("a", 2, 4), holds("c", 1, 2)} {
		got := set(t, r, x)
		if y, there := got.Get(x.Name); y != x || !there {
			t.Errorf("Set(%s), Get:%s, %v", shown(x), shown(y), there)
		}
		if n := len(got.List()); n != 3 {
			t.Errorf("Set(%s): there are %d", shown(x), n)
		}
		_, want := made(t, 5, append(slices.Clone(list), x)...)
		hold(t, got, want)
	}
}

func TestP16_1Drop(t *testing.T) {
	list := named()
	r, want := made(t, 5, list...)
	for _, x := range list {
		got, err := r.Drop(x.Name)
		wantLess, _ := want.drop(x.Name)
		if err != api.OK {
			t.Fatalf("Drop(%q): %d", x.Name, err)
		}
		hold(t, got, wantLess)
		if y, there := got.Get(x.Name); y != (api.Range{}) || there {
			t.Errorf("Drop(%q), Get:%s, %v", x.Name, shown(y), there)
		}
		twice, err := got.Drop(x.Name)
		refuses(t, fmt.Sprintf("Drop(%q), twice", x.Name), twice, err, api.ErrMark)
		hold(t, set(t, got, x), want)
	}
	for _, name := range append([]string{"A", "abcd", "aab", "\xc3\xa8", "\u00ea", "\x81", "a "}, noNames...) {
		got, err := r.Drop(name)
		refuses(t, fmt.Sprintf("Drop of a name of %d bytes", len(name)), got, err, api.ErrMark)
	}
	for _, x := range list {
		var err api.Errno
		if r, err = r.Drop(x.Name); err != api.OK {
			t.Fatalf("Drop(%q): %d", x.Name, err)
		}
	}
	hold(t, r, model{n: 5})
}

func TestP16_1Get(t *testing.T) {
	list := named()
	r, _ := made(t, 5, list...)
	for _, x := range list {
		if got, there := r.Get(x.Name); got != x || !there {
			t.Errorf("Get(%q):%s, %v, want%s", x.Name, shown(got), there, shown(x))
		}
	}
	for _, name := range append([]string{"A", "abcd", "aab", "\xc3\xa8", "\u00ea", "\x81", "a "}, noNames...) {
		if got, there := r.Get(name); got != (api.Range{}) || there {
			t.Errorf("Get of a name of %d bytes:%s, %v", len(name), shown(got), there)
		}
	}
}

// Ranges of one Lo and Hi are listed by their names, in whatever order they were set.
func TestP16_1ListOfOneLoAndHi(t *testing.T) {
	rng := rand.New(rand.NewSource(16))
	for range 50 {
		var list []api.Range
		for _, i := range rng.Perm(len(rising)) {
			list = append(list, of(rising[i], 2, 4, rng.Intn(4)))
		}
		r, _ := made(t, 5, list...)
		for _, all := range [][]api.Range{r.List(), r.Over(3, 3), r.Over(3, 4)} {
			if got := namesOf(all); !slices.Equal(got, rising) {
				t.Fatalf("they are %q, want %q", got, rising)
			}
		}
	}
}

// Lo comes ahead of Hi, Hi ahead of the name, and gravities have no say.
func TestP16_1ListByPlaces(t *testing.T) {
	want := []api.Range{
		takes("z", 0, 1), holds("y", 0, 2), takes("a", 0, most), holds("x", 9, 10), takes("v", 9, 11), of("w", 9, 11, 0), holds("b", 9, 100), of("k", 10, 11, 3), takes("c", most-2, most-1), holds("d", most-1, most), of("e", most-1, most, 0),
	}
	rng := rand.New(rand.NewSource(61))
	for range 50 {
		var list []api.Range
		for _, i := range rng.Perm(len(want)) {
			list = append(list, want[i])
		}
		r, _ := made(t, most, list...)
		if got := r.List(); !slices.Equal(got, want) {
			t.Fatalf("List:%s", shown(got...))
		}
	}
}

// Over with every two numbers in and about the text, and far beyond.
func TestP16_1Over(t *testing.T) {
	ends := []int{least, least + 1, -2, -1, 0, 1, 2, 3, 4, 5, 6, 7, greatest - 1, greatest}
	for _, list := range [][]api.Range{nil, {holds("a", 0, 1)}, {holds("a", 4, 5)}, {takes("a", 0, 5)}, {takes("a", 1, 3), holds("b", 3, 4)}, everywhere(5), named()} {
		r, _ := made(t, 5, list...)
		whole := r.List()
		for _, lo := range ends {
			for _, hi := range ends {
				got := r.Over(lo, hi)
				if want := over(whole, lo, hi); !slices.Equal(got, want) || hi < lo && len(got) != 0 {
					t.Fatalf("Over(%d, %d):%s, want%s", lo, hi, shown(got...), shown(want...))
				}
			}
		}
	}
}

// Which ranges have a byte between two places, told byte by byte; and which have a place, told place by place.
func TestP16_1OverByteByByte(t *testing.T) {
	r, want := made(t, 5, everywhere(5)...)
	list := want.sorted()
	for lo := range 6 {
		for hi := lo; hi <= 5; hi++ {
			var found []api.Range
			for _, x := range list {
				has := false
				for b := lo; b < hi; b++ {
					has = has || b >= x.Lo && b < x.Hi
				}
				for p := x.Lo; p <= x.Hi && lo == hi; p++ {
					has = has || p == lo
				}
				if has {
					found = append(found, x)
				}
			}
			if got := r.Over(lo, hi); !slices.Equal(got, found) {
				t.Errorf("Over(%d, %d):%s, want%s", lo, hi, shown(got...), shown(found...))
			}
		}
	}
}

// What is told hangs on nothing but the ranges: not on the order in which they were set, nor on how often one asks.
func TestR9AndP16_1OneOrder(t *testing.T) {
	list := many(20)
	r, want := made(t, 20, list...)
	wantList, wantCover := want.sorted(), want.cover()
	d := written("=3 -4 =2 +xy -5 =6")
	wantRest, wantGone, _ := want.behind(d)
	rng := rand.New(rand.NewSource(9))
	for range 20 {
		rng.Shuffle(len(list), func(i, j int) { list[i], list[j] = list[j], list[i] })
		other, _ := made(t, 20, list...)
		for _, x := range []*ranges.Ranges{r, other} {
			if !slices.Equal(x.List(), wantList) || !slices.Equal(x.Over(0, 20), wantList) || !slices.Equal(x.Cover(), wantCover) {
				t.Fatal("the lists differ")
			}
			rest, gone := behind(t, x, d)
			if !slices.Equal(gone, wantGone) || !slices.Equal(rest.List(), wantRest.sorted()) {
				t.Fatalf("Behind: gone: %q, want %q", gone, wantGone)
			}
		}
	}
}

// A nil *Ranges answers as none in a text of no bytes; the calls that have errors tell ErrNil, ahead of all others.
func TestR7AndP16_1Nil(t *testing.T) {
	var none *ranges.Ranges
	if none.Len() != 0 || len(none.List()) != 0 || len(none.Cover()) != 0 {
		t.Errorf("%d bytes,%s, %v", none.Len(), shown(none.List()...), none.Cover())
	}
	for _, c := range [][2]int{{0, 0}, {least, greatest}, {-1, 9}, {0, 1}, {1, 0}, {greatest, least}} {
		if got := none.Over(c[0], c[1]); len(got) != 0 {
			t.Errorf("Over(%d, %d):%s", c[0], c[1], shown(got...))
		}
	}
	for _, name := range append(slices.Clone(names), noNames...) {
		if x, there := none.Get(name); x != (api.Range{}) || there {
			t.Errorf("Get:%s, %v", shown(x), there)
		}
		got, err := none.Drop(name)
		refuses(t, "Drop of nil", got, err, api.ErrNil)
		for _, x := range []api.Range{{Name: name}, holds(name, 0, 0), holds(name, 0, 1), holds(name, -1, 0), takes(name, 9, 8), {Name: name, Hi: 1, Start: 3, End: 0}} {
			got, err := none.Set(x)
			refuses(t, "Set of nil", got, err, api.ErrNil)
		}
	}
	for _, d := range append(wrong(), nil, api.Delta{}, written("+x"), written("=3"), written("-1")) {
		refusesBehind(t, none, d, api.ErrNil)
	}
}
