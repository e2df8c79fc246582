package doc_test

import (
	"fmt"
	"math/rand"
	"slices"
	"strings"
	"testing"

	"galley/api"
	"galley/delta"
	"galley/doc"
	"galley/rule"
)

// furnished is a document with marks of both gravities and ranges of all kinds at many places, and with a step on either side.
func furnished(t testing.TB, text string, room int) *pair {
	t.Helper()
	x := made(t, text, room)
	x.edit(t, api.Exact, by(api.Bytes, 0, 0, "<"))
	x.edit(t, api.Exact, by(api.Bytes, 0, 1, ""))
	x.edit(t, api.Exact, by(api.Bytes, len(text), len(text), ">"))
	x.undo(t)
	for p := range len(text) + 1 {
		for _, g := range gravities {
			x.mark(t, fmt.Sprint("m", p, g), api.Bytes, p, g, api.Down)
			for _, end := range gravities {
				x.ranged(t, fmt.Sprint("r", p, g, end), api.Bytes, p/2, p, g, end, api.Up)
			}
		}
	}
	x.hold(t)
	return x
}

// around are the places of 0 to n, one on each side of them, and some far outside.
func around(n int) []int {
	places := []int{least, -1}
	for p := range n + 2 {
		places = append(places, p)
	}
	return append(places, greatest)
}

func sizeBy(t testing.TB, text string, u api.Ruler) int {
	t.Helper()
	n, err := rule.Size([]byte(text), u)
	if err != api.OK {
		t.Fatalf("Size of %s by %d: %d", short(text), u, err)
	}
	return n
}

// One edit by each ruler, between every two places and outside, in each mode; each is taken back and done again.
func TestP18_2OneEdit(t *testing.T) {
	t.Parallel()
	for _, text := range someTexts {
		for _, u := range rulers {
			for _, lo := range around(sizeBy(t, text, u)) {
				for _, hi := range around(sizeBy(t, text, u)) {
					for i, mode := range modes {
						x := furnished(t, text, 3)
						x.edit(t, mode, by(u, lo, hi, []string{"", "x", "\x98\u20ac\r"}[(i+lo+hi)&1+i/2]))
						x.hold(t)
						x.unwind(t)
					}
				}
			}
		}
	}
}

// Without edits nothing happens, whatever the mode: what was taken back is still there, and a group has nothing done in it.
func TestP18_2NoEdits(t *testing.T) {
	for _, text := range someTexts {
		for _, edits := range [][]api.Edit{nil, {}, make([]api.Edit, 0, 3)} {
			for _, mode := range append(noModes, modes...) {
				x := furnished(t, text, 3)
				back, again := x.d.Steps()
				version := x.d.Version()
				if x.edit(t, mode, edits...) != api.OK || x.d.Version() != version {
					t.Fatalf("%s: no edits, mode %d: version %d, was %d", short(text), mode, x.d.Version(), version)
				}
				x.hold(t)
				x.begin(t)
				x.edit(t, mode, edits...)
				x.end(t)
				if b, a := x.d.Steps(); b != back || a != again || a == 0 {
					t.Fatalf("%s: no edits, mode %d: steps %d, %d, were %d, %d", short(text), mode, b, a, back, again)
				}
				x.unwind(t)
			}
		}
	}
}

// Edits that do nothing are a step all the same, and what was taken back is lost by them.
func TestP18_2EditsThatDoNothing(t *testing.T) {
	for _, text := range someTexts {
		for _, u := range rulers {
			x := furnished(t, text, 3)
			version := x.d.Version()
			if x.edit(t, api.Exact, by(u, 0, 0, "")) != api.OK || x.d.Version() != version+1 {
				t.Fatalf("%s: version %d, was %d", short(text), x.d.Version(), version)
			}
			if back, again := x.d.Steps(); back != 3 || again != 0 {
				t.Fatalf("%s: steps %d, %d", short(text), back, again)
			}
			x.mark(t, "later", u, 0, api.Left, api.Exact)
			x.edit(t, api.Down, by(u, 0, 0, ""), by(u, sizeBy(t, text, u), sizeBy(t, text, u), ""))
			x.unwind(t)
		}
	}
}

// Marks and ranges come to stand where the delta leads them, not where each of its edits would do so one behind the other: neighbours are one change.
func TestP18_2MarksGoByTheDelta(t *testing.T) {
	x := made(t, "abcdef", 4)
	x.mark(t, "l", api.Bytes, 3, api.Left, api.Exact)
	x.mark(t, "r", api.Bytes, 3, api.Right, api.Exact)
	x.ranged(t, "holds", api.Bytes, 2, 4, api.Right, api.Left, api.Exact)
	x.ranged(t, "takes", api.Bytes, 2, 4, api.Left, api.Right, api.Exact)
	x.edit(t, api.Exact, by(api.Runes, 3, 5, "23"), by(api.Units, 1, 3, "1"))
	x.hold(t)
	if got, _ := x.d.Marked("l", api.Bytes); got != 1 {
		t.Errorf("l stands at %d", got)
	}
	if got, _ := x.d.Marked("r", api.Bytes); got != 4 {
		t.Errorf("r stands at %d", got)
	}
	if got := x.d.Ranges(); len(got) != 1 || got[0] != (api.Range{Name: "takes", Lo: 1, Hi: 4, Start: api.Left, End: api.Right}) {
		t.Errorf("Ranges: %v", got)
	}
	x.unwind(t)
}

// Each error of edit.Batch, with its number; nothing is changed by any, in a group and outside.
func TestP18_2Errors(t *testing.T) {
	text := "a\U0001F600b\xff"
	good := by(api.Runes, 0, 0, "x")
	for _, c := range []struct {
		name  string
		edits []api.Edit
		mode  api.Mode
		at    int
		want  api.Errno
	}{
		{"no ruler", []api.Edit{by(0, 0, 0, "")}, api.Down, 0, api.ErrRuler},
		{"no ruler, second", []api.Edit{good, by(4, 0, 0, "")}, api.Up, 1, api.ErrRuler},
		{"no ruler ahead of no place", []api.Edit{by(4, -1, 9, "")}, api.Up, 0, api.ErrRuler},
		{"no mode", []api.Edit{good}, 0, 0, api.ErrRuler},
		{"no mode, also by bytes", []api.Edit{by(api.Bytes, 0, 0, "")}, 4, 0, api.ErrRuler},
		{"below 0", []api.Edit{by(api.Bytes, -1, 0, "")}, api.Exact, 0, api.ErrRange},
		{"backwards", []api.Edit{good, good, by(api.Runes, 2, 1, "")}, api.Exact, 2, api.ErrRange},
		{"beyond by bytes", []api.Edit{by(api.Bytes, 0, 8, "")}, api.Down, 0, api.ErrRange},
		{"beyond by runes", []api.Edit{by(api.Runes, 0, 5, "")}, api.Down, 0, api.ErrRange},
		{"beyond by units", []api.Edit{good, by(api.Units, 0, 6, "")}, api.Up, 1, api.ErrRange},
		{"inside", []api.Edit{good, by(api.Units, 2, 2, "")}, api.Exact, 1, api.ErrInside},
		{"its end inside", []api.Edit{by(api.Units, 0, 2, "")}, api.Exact, 0, api.ErrInside},
		{"crossing", []api.Edit{by(api.Runes, 0, 2, ""), by(api.Units, 1, 1, "x")}, api.Exact, 1, api.ErrCross},
		{"crossing ahead of no ruler", []api.Edit{good, by(api.Bytes, 1, 4, ""), by(api.Units, 1, 3, ""), by(0, 0, 0, "")}, api.Exact, 2, api.ErrCross},
		{"crossing behind no place", []api.Edit{by(api.Bytes, 1, 4, ""), by(api.Units, 9, 9, ""), by(api.Units, 1, 3, "")}, api.Exact, 1, api.ErrRange},
		{"crossing by the mode", []api.Edit{by(api.Units, 1, 2, ""), by(api.Bytes, 2, 3, "")}, api.Up, 1, api.ErrCross},
		{"too many", slices.Repeat([]api.Edit{good}, api.MaxEdits+1), api.Exact, 0, api.ErrMany},
		{"too many, wrong ones", make([]api.Edit, api.MaxEdits+1), 0, 0, api.ErrMany},
		{"too long alone", []api.Edit{good, by(api.Bytes, 0, 0, tooLong()[:api.MaxText-6])}, api.Exact, 1, api.ErrLong},
		{"too long together", []api.Edit{good, by(api.Bytes, 0, 0, tooLong()[:api.MaxText-7])}, api.Exact, 0, api.ErrLong},
		{"a text that is too long", []api.Edit{good, good, by(api.Bytes, 0, 7, tooLong())}, api.Exact, 2, api.ErrLong},
	} {
		x := furnished(t, text, 3)
		for range 2 {
			got, at, err := x.d.Edit(c.edits, c.mode)
			if len(got) != 0 || at != c.at || err != c.want {
				t.Errorf("%s:%s, %d, %d, want at %d, %d", c.name, told(got), at, err, c.at, c.want)
			}
			x.tell("Edit: %s", c.name)
			x.hold(t)
			x.begin(t)
		}
		x.unwind(t)
	}
}

// Several edits by unlike rulers, by chance, are one step.
func TestP18_2SeveralEdits(t *testing.T) {
	t.Parallel()
	rng := rand.New(rand.NewSource(1802))
	good := 0
	for range 3000 {
		x := furnished(t, someTexts[rng.Intn(len(someTexts))], 3)
		for range 2 {
			if x.edit(t, modes[rng.Intn(3)], editsByChance(rng, x.want.text, 1+rng.Intn(4))...) == api.OK {
				good++
			}
			x.hold(t)
		}
		x.unwind(t)
	}
	if good < 1000 {
		t.Errorf("only %d of these were good", good)
	}
}

// editsByChance are some edits of a text, by unlike rulers; they may cross, or have no places.
func editsByChance(rng *rand.Rand, text string, n int) []api.Edit {
	var edits []api.Edit
	for range n {
		u := rulers[rng.Intn(3)]
		size, _ := rule.Size([]byte(text), u)
		lo := rng.Intn(size + 1)
		hi := min(lo+rng.Intn(3), size)
		if rng.Intn(20) == 0 {
			hi = size + 1
		}
		edits = append(edits, by(u, lo, hi, pieces[rng.Intn(len(pieces))]))
	}
	return edits
}

// pieces are texts that make encodings and line ends where they meet, or part them.
var pieces = []string{"", "", "x", "yz", "\u00e9", "\u20ac", "\U0001F600", "\xf0\x9f", "\x98\x80", "\xe2\x82", "\xac", "\r", "\n", "\xff"}

// There may be MaxEdits edits.
func TestP18_2ManyEdits(t *testing.T) {
	x := made(t, strings.Repeat("a", 20000)+"\u20ac", 2)
	x.mark(t, "m", api.Runes, 9000, api.Right, api.Exact)
	var edits []api.Edit
	for i := range api.MaxEdits {
		u := api.Bytes
		if i%64 == 0 {
			u = rulers[1+i/64%2]
		}
		edits = append(edits, by(u, i, i+i%2, strings.Repeat("x", i%3)))
	}
	slices.Reverse(edits)
	x.edit(t, api.Exact, edits...)
	x.unwind(t)
}

// Three documents whose edits, marks and ranges mean one place by three rulers do one thing.
func TestP4ThreeRulers(t *testing.T) {
	t.Parallel()
	rng := rand.New(rand.NewSource(44))
	for range 300 {
		text := someTexts[rng.Intn(len(someTexts))]
		var three [3]*pair
		for i := range three {
			three[i] = made(t, text, 4)
		}
		for range 12 {
			table, _ := rule.Table([]byte(three[0].want.text), api.Runes)
			lo := rng.Intn(len(table))
			hi := min(lo+rng.Intn(3), len(table)-1)
			piece, mode, kind := pieces[rng.Intn(len(pieces))], modes[rng.Intn(3)], rng.Intn(5)
			for i, x := range three {
				u := rulers[i]
				from, _ := rule.To([]byte(x.want.text), api.Runes, lo, u, api.Exact)
				to, _ := rule.To([]byte(x.want.text), api.Runes, hi, u, api.Exact)
				switch kind {
				case 0:
					x.mark(t, piece, u, from, api.Left, mode)
				case 1:
					x.ranged(t, piece, u, from, to, api.Left, api.Right, mode)
				case 2:
					x.undo(t)
				default:
					x.edit(t, mode, by(u, from, to, piece))
				}
				x.hold(t)
				alike(t, three[0].d, x.d, i > 0)
			}
		}
	}
}

// alike: do both documents tell the same? If the first one is to be held, it has done the same.
func alike(t *testing.T, a, b *doc.Doc, held bool) {
	t.Helper()
	if held && (textOf(t, a) != textOf(t, b) || a.Version() != b.Version() || !slices.Equal(a.Marks(), b.Marks()) || !slices.Equal(a.Ranges(), b.Ranges())) {
		t.Fatalf("%q, %v, %v; %q, %v, %v", textOf(t, a), a.Marks(), a.Ranges(), textOf(t, b), b.Marks(), b.Ranges())
	}
}

// canonical are the canonical deltas of a text of n bytes that put at most one short text at each place.
func canonical(n int) []api.Delta {
	var all []api.Delta
	var fill func(d api.Delta, at int)
	fill = func(d api.Delta, at int) {
		if delta.Valid(d) {
			if from, _, _ := delta.Lens(d); from == n {
				all = append(all, slices.Clone(d))
			}
		}
		last := api.OpKind(0)
		if len(d) > 0 {
			last = d[len(d)-1].Kind
		}
		if last != api.Put && last != api.Drop {
			fill(append(slices.Clone(d), put(pieces[4+len(d)])), at)
		}
		for size := 1; size <= n-at; size++ {
			if last != api.Keep {
				fill(append(slices.Clone(d), keep(size)), at+size)
			}
			if last != api.Drop {
				fill(append(slices.Clone(d), drop(size)), at+size)
			}
		}
	}
	fill(nil, 0)
	return all
}

// Every short delta, of texts of its length and of others.
func TestP18_3EveryShortDelta(t *testing.T) {
	t.Parallel()
	for n := range 5 {
		ds := canonical(n)
		for i, d := range ds {
			for _, text := range someTexts {
				if len(text) > n+1 || len(text) != n && i%7 != 0 {
					continue
				}
				x := furnished(t, text, 3)
				err := x.apply(t, d)
				if (err == api.OK) != (len(text) == n) {
					t.Fatalf("%s: Apply(%s): %d", short(text), told(d), err)
				}
				x.hold(t)
				x.unwind(t)
			}
		}
	}
}

// A delta that keeps all is none: what was taken back is still there, and a group has nothing done in it.
func TestP18_3KeepsAll(t *testing.T) {
	for _, text := range append(someTexts, strings.Repeat("a\U0001F600", 2000)) {
		x := furnished(t, text[:min(len(text), 9)], 3)
		if len(text) > 9 {
			x = made(t, text, 3)
			x.edit(t, api.Exact, by(api.Bytes, 0, 0, "x"))
			x.undo(t)
		}
		all := api.Delta{keep(len(x.want.text))}
		if x.want.text == "" {
			all = nil
		}
		back, again := x.d.Steps()
		version := x.d.Version()
		x.apply(t, all)
		x.hold(t)
		x.begin(t)
		x.apply(t, all)
		x.hold(t)
		x.end(t)
		if b, a := x.d.Steps(); b != back || a != again || a == 0 || x.d.Version() != version {
			t.Errorf("%s: steps %d, %d, were %d, %d; version %d, was %d", short(text), b, a, back, again, x.d.Version(), version)
		}
		x.unwind(t)
	}
}

// ErrDelta comes ahead of ErrFit; nothing is changed by either, in a group and outside.
func TestP18_3Errors(t *testing.T) {
	long := tooLong()
	wrong := []api.Delta{
		written("=0"), written("=2 =1"), written("=1 -1 +x =1"), written("-1 -2"), written("+"), written("+x +y =3"), written("=-3"), written("-0 =3"), written("=3 +"), written("=0 +x"), written("=2 +x"), written("=4"), written("-4"), written("=4 +x"), written("+x"), nil, {}, written("=4 =1"),
		{{Kind: 0, N: 3}}, {{Kind: 4}}, {{Kind: -1, N: 3}}, {{Kind: least}}, {{Kind: greatest, N: 3}}, {keep(3), {}},
		{{Kind: api.Keep, N: 3, Text: "x"}}, {{Kind: api.Drop, N: 3, Text: "x"}}, {keep(3), {Kind: api.Put, N: 3, Text: "xyz"}},
		{keep(api.MaxText + 1)}, {drop(api.MaxText + 1)}, {keep(greatest), drop(greatest)}, {keep(least)}, {drop(least)}, {keep(greatest)}, {keep(api.MaxText)}, {drop(api.MaxText)},
		{put(long)}, {put(long), drop(3)}, {keep(3), put(long[:api.MaxText-2])}, {put(long[:api.MaxText-1]), keep(3)}, {put(long[:api.MaxText]), drop(2), keep(1)},
	}
	x := furnished(t, "abc", 3)
	for range 2 {
		for _, d := range wrong {
			want := api.ErrDelta
			if delta.Valid(d) {
				want = api.ErrFit
			}
			if err := x.d.Apply(d); err != want {
				t.Errorf("Apply(%s): %d, want %d", told(d), err, want)
			}
			x.hold(t)
		}
		x.begin(t)
	}
	x.unwind(t)
}

// A delta may have more changes than there may be edits; so may a group.
func TestP18_3ManyChanges(t *testing.T) {
	t.Parallel()
	x := made(t, strings.Repeat("ab\u20ac", 2*api.MaxEdits), 3)
	x.mark(t, "l", api.Bytes, 50000, api.Left, api.Exact)
	x.mark(t, "r", api.Bytes, 50000, api.Right, api.Exact)
	x.ranged(t, "x", api.Bytes, 10, 90000, api.Left, api.Right, api.Exact)
	var d api.Delta
	for i := range api.MaxEdits + 5 {
		switch i % 3 {
		case 0:
			d = append(d, put("\U0001F600"), keep(1))
		case 1:
			d = append(d, drop(2), keep(3))
		case 2:
			d = append(d, put("x"), drop(1), keep(1))
		}
	}
	d, _ = delta.Canon(append(d, keep(len(x.want.text)-measured(d))))
	if changes, _ := delta.Changes(d); len(changes) <= api.MaxEdits {
		t.Fatalf("only %d changes", len(changes))
	}
	x.apply(t, d)
	x.hold(t)
	x.begin(t)
	for _, start := range []int{0, 1, 40000} {
		var edits []api.Edit
		for i := range api.MaxEdits {
			edits = append(edits, by(api.Bytes, start+2*i, start+2*i+1, "y"))
		}
		x.edit(t, api.Down, edits...)
		x.hold(t)
	}
	x.end(t)
	if changes, _ := delta.Changes(x.want.back[len(x.want.back)-1].delta); len(changes) <= api.MaxEdits {
		t.Fatalf("only %d changes in the group", len(changes))
	}
	x.unwind(t)
}

// measured is how many bytes a delta keeps and drops.
func measured(d api.Delta) int {
	n := 0
	for _, op := range d {
		n += op.N
	}
	return n
}

// The longest text: it can be changed as long as it doesn't become longer, also where all that is put stands ahead of what is dropped; and all is taken back.
func TestP18_2To5LongestText(t *testing.T) {
	d, err := doc.New([]byte(tooLong()[:api.MaxText]), 3)
	if err != api.OK {
		t.Fatal(err)
	}
	ends := func(call string, err api.Errno, length int, ahead, behind string) {
		t.Helper()
		n := d.Text().Len()
		first, _ := d.Text().Bytes(0, len(ahead))
		last, _ := d.Text().Bytes(max(0, n-len(behind)), n)
		if err != api.OK || n != length || string(first) != ahead || string(last) != behind {
			t.Fatalf("%s: %d, %d bytes, %q .. %q, want %d, %q .. %q", call, err, n, first, last, length, ahead, behind)
		}
	}
	refused := func(wantAt int, want api.Errno, edits ...api.Edit) {
		t.Helper()
		version := d.Version()
		if x, at, err := d.Edit(edits, api.Exact); len(x) != 0 || at != wantAt || err != want || d.Version() != version {
			t.Fatalf("Edit(%s):%s, %d, %d, want %d, %d", shown(edits), told(x), at, err, wantAt, want)
		}
	}
	size := api.MaxText
	d.Mark("m", api.Units, size-1, api.Left, api.Exact)
	refused(0, api.ErrLong, by(api.Runes, 0, 0, "a"))
	refused(1, api.ErrLong, by(api.Bytes, size-1, size, ""), by(api.Runes, 0, 0, "a"))
	if err := d.Apply(api.Delta{keep(size), put("a")}); err != api.ErrDelta {
		t.Fatalf("Apply: %d", err)
	}
	ends("Apply", d.Apply(api.Delta{put("abc"), keep(size - 3), drop(3)}), size, "abcx", "xx")
	if place, err := d.Marked("m", api.Units); place != size || err != api.OK {
		t.Fatalf("Marked: %d, %d", place, err)
	}
	_, _, err = d.Edit([]api.Edit{by(api.Runes, size-1, size, "")}, api.Exact)
	ends("Edit", err, size-1, "abcx", "xx")
	refused(0, api.ErrLong, by(api.Units, 0, 0, "1"), by(api.Units, 0, 0, "2"))
	refused(1, api.ErrLong, by(api.Units, 0, 0, "1"), by(api.Units, 0, 0, "23"))
	d.Begin()
	_, _, err = d.Edit([]api.Edit{by(api.Units, 0, 0, "1"), by(api.Bytes, 0, 1, "2")}, api.Exact)
	ends("Edit in a group", err, size, "12bc", "xx")
	ends("Apply in a group", d.Apply(api.Delta{put("yz"), keep(size - 2), drop(2)}), size, "yz12bc", "xx")
	d.End()
	x, err := d.Undo()
	ends("Undo", err, size-1, "abcx", "xx")
	if !slices.Equal(x, api.Delta{put("a"), drop(4), keep(size - 4), put("xx")}) {
		t.Fatalf("Undo:%s", told(x))
	}
	_, err = d.Undo()
	ends("Undo", err, size, "abcx", "xx")
	x, err = d.Undo()
	ends("Undo", err, size, "xx", "xx")
	if !slices.Equal(x, api.Delta{drop(3), keep(size - 3), put("xxx")}) {
		t.Fatalf("Undo:%s", told(x))
	}
	if place, err := d.Marked("m", api.Units); place != size-1 || err != api.OK {
		t.Fatalf("Marked: %d, %d", place, err)
	}
	for range 3 {
		_, err = d.Redo()
	}
	ends("Redo", err, size, "yz12bc", "xx")
}
