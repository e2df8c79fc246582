package marks_test

import (
	"fmt"
	"math/rand"
	"slices"
	"strings"
	"testing"

	"galley/api"
	"galley/marks"
)

// names are some that may be, many of which are listed in another order if bytes are told apart by their sign, by runes or by length.
var names = []string{
	"a", "ab", "abc", "b", "B", "aa", "a\x00", "a\xff", "\x00", "\x00\x00", "\x7f", "\x80", "\x80\x80", "\xc3", "\xc3\xa9", "\xc3\xa9a", "\xff", "\xff\x00", "\xff\xff",
	"\xef\xbf\xbd", "\U0001F600", "\uffff", "e\u0301", "\r\n", " ", strings.Repeat("a", 64), strings.Repeat("\xff", 64), strings.Repeat("\u00e9", 32), strings.Repeat("\U0001F600", 16),
}

// noNames are some that may not be.
var noNames = []string{
	"", strings.Repeat("a", 65), strings.Repeat("\x00", 65), strings.Repeat("\xff", 65), strings.Repeat("\u00e9", 32) + "a", strings.Repeat("\u00e9", 33), strings.Repeat("\U0001F600", 17), strings.Repeat("a", 128), strings.Repeat("a", 256), strings.Repeat("a", 320), strings.Repeat("a", 1<<16),
}

func TestP15_1New(t *testing.T) {
	for _, n := range []int{least, -2, -1, most + 1, most + 2, 1 << 32, greatest} {
		m, err := marks.New(n)
		refuses(t, fmt.Sprintf("New(%d)", n), m, err, api.ErrRange)
	}
	for _, n := range []int{0, 1, 5, 255, most - 1, most} {
		m, want := made(t, n)
		hold(t, m, want)
		if len(m.List()) != 0 || len(m.Between(least, greatest)) != 0 {
			t.Errorf("New(%d): there are marks", n)
		}
		if x, there := m.Get("a"); x != (api.Mark{}) || there {
			t.Errorf("New(%d), Get:%s, %v", n, shown(x), there)
		}
	}
}

// Len is that of the text, whatever is set, dropped and moved.
func TestP15_1Len(t *testing.T) {
	m, _ := made(t, 5, mark("a", 0, api.Left), mark("b", 5, api.Right))
	if m.Len() != 5 {
		t.Errorf("Len: %d", m.Len())
	}
	m, _ = m.Drop("b")
	if m.Len() != 5 {
		t.Errorf("Len behind Drop: %d", m.Len())
	}
	for _, c := range []struct {
		d    string
		want int
	}{{"=5", 5}, {"-5", 0}, {"+xyz -5", 3}, {"=2 +xy -1 =2", 6}, {"+x =5 +y", 7}} {
		if others, err := m.Behind(written(c.d)); others.Len() != c.want || err != api.OK {
			t.Errorf("Len behind %s: %d, %d, want %d", c.d, others.Len(), err, c.want)
		}
	}
}

// abcde are the marks of the chapter's examples.
func abcde(t *testing.T) *marks.Marks {
	t.Helper()
	m, _ := made(t, 5, mark("l", 2, api.Left), mark("r", 2, api.Right), mark("e", 5, api.Right))
	return m
}

func TestP15_2To4Examples(t *testing.T) {
	m := abcde(t)
	l, r, e := mark("l", 2, api.Left), mark("r", 2, api.Right), mark("e", 5, api.Right)
	if got := m.List(); !slices.Equal(got, []api.Mark{l, r, e}) {
		t.Errorf("List:%s", shown(got...))
	}
	for _, c := range []struct {
		lo, hi int
		want   []api.Mark
	}{{2, 2, []api.Mark{l, r}}, {3, 9, []api.Mark{e}}, {3, 2, nil}, {0, 1, nil}, {5, 5, []api.Mark{e}}, {3, 4, nil}, {6, 9, nil}, {-9, 9, []api.Mark{l, r, e}}} {
		if got := m.Between(c.lo, c.hi); !slices.Equal(got, c.want) {
			t.Errorf("Between(%d, %d):%s, want%s", c.lo, c.hi, shown(got...), shown(c.want...))
		}
	}
	for _, c := range []struct {
		x    api.Mark
		want api.Errno
	}{{mark("", 0, api.Left), api.ErrName}, {mark("a", 6, api.Left), api.ErrRange}, {mark("a", 0, 3), api.ErrRange}} {
		got, err := m.Set(c.x)
		refuses(t, fmt.Sprintf("Set(%s)", shown(c.x)), got, err, c.want)
	}
	got, err := m.Drop("x")
	refuses(t, "Drop(x)", got, err, api.ErrMark)
}

// A name is looked at byte by byte: how many there are says whether it may be.
func TestP15_2Names(t *testing.T) {
	m, _ := made(t, 5)
	for size := range 300 {
		for _, b := range []string{"a", "\x00", "\x80", "\xff"} {
			x := mark(strings.Repeat(b, size), 3, api.Right)
			got, err := m.Set(x)
			if size == 0 || size > 64 {
				refuses(t, fmt.Sprintf("Set of a name of %d bytes", size), got, err, api.ErrName)
				continue
			}
			if y, there := got.Get(x.Name); err != api.OK || y != x || !there {
				t.Fatalf("Set of a name of %d bytes: %d,%s, %v", size, err, shown(y), there)
			}
		}
	}
	for b := range 256 {
		x := mark(string([]byte{byte(b)}), 0, api.Left)
		if got := set(t, m, x).List(); !slices.Equal(got, []api.Mark{x}) {
			t.Errorf("Set(%s):%s", shown(x), shown(got...))
		}
	}
	for _, name := range names {
		x := mark(name, 5, api.Left)
		if got := set(t, m, x).List(); !slices.Equal(got, []api.Mark{x}) {
			t.Errorf("Set(%s):%s", shown(x), shown(got...))
		}
	}
	for _, name := range noNames {
		got, err := m.Set(mark(name, 0, api.Left))
		refuses(t, fmt.Sprintf("Set of a name of %d bytes", len(name)), got, err, api.ErrName)
	}
}

// All single bytes are names of their own, at one time.
func TestP15_2NamesOfAllBytes(t *testing.T) {
	var list []api.Mark
	for b := range 256 {
		list = append(list, mark(string([]byte{byte(b)}), 1, gravities[b%2]))
	}
	m, want := made(t, 1, list...)
	hold(t, m, want)
	if got := m.List(); !slices.Equal(got, list) {
		t.Errorf("List:%s", shown(got...))
	}
}

func TestP15_2PlacesAndGravities(t *testing.T) {
	for _, n := range []int{0, 1, 5, most} {
		m, none := made(t, n, mark("there", n, api.Left))
		for _, name := range []string{"a", "there"} {
			for _, place := range []int{least, -2, -1, 0, n / 2, n - 1, n, n + 1, n + 2, greatest} {
				for _, g := range append(slices.Clone(noGravities), gravities...) {
					x := mark(name, place, g)
					got, err := m.Set(x)
					want, wantErr := none.set(x)
					if wantErr != api.OK {
						refuses(t, fmt.Sprintf("Set(%s) of %d bytes", shown(x), n), got, err, wantErr)
						continue
					}
					if err != api.OK {
						t.Fatalf("Set(%s) of %d bytes: %d", shown(x), n, err)
					}
					hold(t, got, want)
				}
			}
		}
	}
}

// ErrName is told ahead of ErrRange, both ahead of ErrMany.
func TestP15_2ErrorsInOrder(t *testing.T) {
	few, _ := made(t, 5)
	full, _ := made(t, 5, many(5)...)
	var wrongs []api.Mark
	for _, place := range []int{least, -1, 6, greatest} {
		for _, g := range append(slices.Clone(noGravities), gravities...) {
			wrongs = append(wrongs, mark("", place, g))
		}
	}
	for _, g := range noGravities {
		wrongs = append(wrongs, mark("", 0, g), mark("", 5, g))
	}
	for _, m := range []*marks.Marks{few, full} {
		for _, x := range wrongs {
			for _, x.Name = range noNames {
				got, err := m.Set(x)
				refuses(t, fmt.Sprintf("Set at %d, %d, of a name of %d bytes", x.Place, x.Gravity, len(x.Name)), got, err, api.ErrName)
			}
			for _, x.Name = range []string{"new", "m0", "m1023"} {
				got, err := m.Set(x)
				refuses(t, fmt.Sprintf("Set(%s)", shown(x)), got, err, api.ErrRange)
			}
		}
		for _, name := range noNames {
			got, err := m.Set(mark(name, 0, api.Left))
			refuses(t, "Set of no name", got, err, api.ErrName)
		}
	}
}

// MaxMarks may be; one more is refused, but a name that is there is set again; and where one was dropped there is room.
func TestP15_2MaxMarks(t *testing.T) {
	list := many(9)
	m, want := made(t, 9, list[:1023]...)
	hold(t, m, want)
	m, want = made(t, 9, list...)
	if len(m.List()) != 1024 {
		t.Fatalf("there are %d", len(m.List()))
	}
	hold(t, m, want)
	for _, name := range names {
		got, err := m.Set(mark(name, 0, api.Left))
		refuses(t, fmt.Sprintf("Set(%q) of too many", name), got, err, api.ErrMany)
	}
	for _, i := range []int{0, 1, 511, 1023} {
		x := mark(list[i].Name, 9-list[i].Place, 3-list[i].Gravity)
		others := set(t, m, x)
		wantOthers, _ := want.set(x)
		hold(t, others, wantOthers)
		got, err := others.Set(mark("new", 0, api.Left))
		refuses(t, "Set of too many", got, err, api.ErrMany)
	}
	less, _ := m.Drop("m7")
	again := set(t, less, mark("new", 3, api.Right))
	wantLess, _ := want.drop("m7")
	wantAgain, _ := wantLess.set(mark("new", 3, api.Right))
	hold(t, again, wantAgain)
	got, err := again.Set(list[7])
	refuses(t, "Set of the one that was dropped", got, err, api.ErrMany)
	behind, _ := m.Behind(written("-9"))
	got, err = behind.Set(mark("new", 0, api.Right))
	refuses(t, "Set of too many behind a delta", got, err, api.ErrMany)
	hold(t, m, want)
}

// The mark that had the name is no more; all others stay.
func TestP15_2SetAgain(t *testing.T) {
	m, _ := made(t, 5, mark("a", 1, api.Left), mark("b", 2, api.Left), mark("c", 2, api.Right))
	for _, x := range []api.Mark{mark("b", 2, api.Left), mark("b", 2, api.Right), mark("b", 0, api.Left), mark("b", 5, api.Right), mark("a", 2, api.Right), mark("c", 1, api.Right)} {
		got := set(t, m, x)
		if y, there := got.Get(x.Name); y != x || !there {
			t.Errorf("Set(%s), Get:%s, %v", shown(x), shown(y), there)
		}
		if n := len(got.List()); n != 3 {
			t.Errorf("Set(%s): there are %d", shown(x), n)
		}
		_, want := made(t, 5, mark("a", 1, api.Left), mark("b", 2, api.Left), mark("c", 2, api.Right), x)
		hold(t, got, want)
	}
}

func TestP15_3Drop(t *testing.T) {
	var list []api.Mark
	for i, name := range names {
		list = append(list, mark(name, i%6, gravities[i%2]))
	}
	m, want := made(t, 5, list...)
	for _, x := range list {
		got, err := m.Drop(x.Name)
		wantLess, _ := want.drop(x.Name)
		if err != api.OK {
			t.Fatalf("Drop(%q): %d", x.Name, err)
		}
		hold(t, got, wantLess)
		if y, there := got.Get(x.Name); y != (api.Mark{}) || there {
			t.Errorf("Drop(%q), Get:%s, %v", x.Name, shown(y), there)
		}
		twice, err := got.Drop(x.Name)
		refuses(t, fmt.Sprintf("Drop(%q), twice", x.Name), twice, err, api.ErrMark)
		hold(t, set(t, got, x), want)
	}
	for _, name := range append([]string{"A", "abcd", "aab", "\xc3\xa8", "\u00ea", "\x81", "a "}, noNames...) {
		got, err := m.Drop(name)
		refuses(t, fmt.Sprintf("Drop of a name of %d bytes", len(name)), got, err, api.ErrMark)
	}
	for _, x := range list {
		var err api.Errno
		if m, err = m.Drop(x.Name); err != api.OK {
			t.Fatalf("Drop(%q): %d", x.Name, err)
		}
	}
	hold(t, m, model{n: 5})
}

func TestP15_3Get(t *testing.T) {
	var list []api.Mark
	for i, name := range names {
		list = append(list, mark(name, i%6, gravities[i%2]))
	}
	m, _ := made(t, 5, list...)
	for _, x := range list {
		if got, there := m.Get(x.Name); got != x || !there {
			t.Errorf("Get(%q):%s, %v, want%s", x.Name, shown(got), there, shown(x))
		}
	}
	for _, name := range append([]string{"A", "abcd", "aab", "\xc3\xa8", "\u00ea", "\x81", "a "}, noNames...) {
		if got, there := m.Get(name); got != (api.Mark{}) || there {
			t.Errorf("Get of a name of %d bytes:%s, %v", len(name), shown(got), there)
		}
	}
}

// Marks at one place are listed by their names, in whatever order they were set.
func TestP15_4ListAtOnePlace(t *testing.T) {
	want := []string{"\x00", "\x00\x00", "a", "a\x00", "aa", "ab", "a\x7f", "a\x80", "a\xff", "b", "\x7f", "\x80", "\xc3", "\xc3\xa9", "\xc3\xa9a", "\xef\xbf\xbf", "\xf0\x9f\x98\x80", "\xff", "\xff\x00", "\xff\xff"}
	rng := rand.New(rand.NewSource(15))
	for range 50 {
		var list []api.Mark
		for _, i := range rng.Perm(len(want)) {
			list = append(list, mark(want[i], 3, gravities[rng.Intn(2)]))
		}
		m, _ := made(t, 5, list...)
		for _, all := range [][]api.Mark{m.List(), m.Between(3, 3)} {
			var got []string
			for _, x := range all {
				got = append(got, x.Name)
			}
			if !slices.Equal(got, want) {
				t.Fatalf("they are %q, want %q", got, want)
			}
		}
	}
}

// Places come ahead of names, and gravity has no say.
func TestP15_4ListByPlaces(t *testing.T) {
	m, _ := made(t, most, mark("b", 10, api.Left), mark("c", 9, api.Right), mark("a", 10, api.Right), mark("z", 0, api.Right), mark("y", most, api.Left), mark("x", most-1, api.Left), mark("d", 9, api.Left))
	want := []api.Mark{mark("z", 0, api.Right), mark("c", 9, api.Right), mark("d", 9, api.Left), mark("a", 10, api.Right), mark("b", 10, api.Left), mark("x", most-1, api.Left), mark("y", most, api.Left)}
	if got := m.List(); !slices.Equal(got, want) {
		t.Errorf("List:%s", shown(got...))
	}
}

// Between with every two numbers in and about the text, and far beyond.
func TestP15_4Between(t *testing.T) {
	ends := []int{least, least + 1, -2, -1, 0, 1, 2, 3, 4, 5, 6, 7, greatest - 1, greatest}
	var list []api.Mark
	for i, name := range names {
		list = append(list, mark(name, i%5, gravities[i%2])) // none at the end
	}
	for _, marked := range [][]api.Mark{nil, {mark("a", 0, api.Left)}, {mark("a", 5, api.Left)}, everywhere(5), list} {
		m, want := made(t, 5, marked...)
		whole := m.List()
		for _, lo := range ends {
			for _, hi := range ends {
				got := m.Between(lo, hi)
				if !slices.Equal(got, want.between(lo, hi)) || hi < lo && len(got) != 0 {
					t.Fatalf("Between(%d, %d):%s, want%s", lo, hi, shown(got...), shown(want.between(lo, hi)...))
				}
				of := slices.DeleteFunc(slices.Clone(whole), func(x api.Mark) bool { return x.Place < lo || x.Place > hi })
				if !slices.Equal(got, of) {
					t.Fatalf("Between(%d, %d):%s, of the list%s", lo, hi, shown(got...), shown(of...))
				}
			}
		}
	}
}

// What is told hangs on nothing but the marks: not on the order in which they were set, nor on how often one asks.
func TestR9AndP15_4OneOrder(t *testing.T) {
	list := many(20)
	m, want := made(t, 20, list...)
	wantList := want.between(0, 20)
	rng := rand.New(rand.NewSource(9))
	for range 20 {
		rng.Shuffle(len(list), func(i, j int) { list[i], list[j] = list[j], list[i] })
		other, _ := made(t, 20, list...)
		if !slices.Equal(other.List(), wantList) || !slices.Equal(m.List(), wantList) || !slices.Equal(m.Between(0, 20), wantList) {
			t.Fatal("the lists differ")
		}
	}
}

// A nil *Marks answers as none in a text of no bytes; the calls that have errors tell ErrNil, ahead of all others.
func TestR7AndP15Nil(t *testing.T) {
	var none *marks.Marks
	if none.Len() != 0 || len(none.List()) != 0 {
		t.Errorf("%d bytes,%s", none.Len(), shown(none.List()...))
	}
	for _, c := range [][2]int{{0, 0}, {least, greatest}, {-1, 9}, {1, 0}, {greatest, least}} {
		if got := none.Between(c[0], c[1]); len(got) != 0 {
			t.Errorf("Between(%d, %d):%s", c[0], c[1], shown(got...))
		}
	}
	for _, name := range append(slices.Clone(names), noNames...) {
		if x, there := none.Get(name); x != (api.Mark{}) || there {
			t.Errorf("Get:%s, %v", shown(x), there)
		}
		got, err := none.Drop(name)
		refuses(t, "Drop of nil", got, err, api.ErrNil)
		for _, x := range []api.Mark{mark(name, 0, api.Left), mark(name, 0, 3), mark(name, -1, api.Right), mark(name, 9, 0)} {
			got, err := none.Set(x)
			refuses(t, "Set of nil", got, err, api.ErrNil)
		}
	}
	for _, d := range append(wrong(), nil, api.Delta{}, written("+x"), written("=3"), written("-1")) {
		got, err := none.Behind(d)
		refuses(t, "Behind of nil", got, err, api.ErrNil)
	}
}
