package doc_test

import (
	"runtime"
	"slices"
	"strings"
	"testing"
	"unsafe"
	"weak"

	"galley/api"
	"galley/delta"
	"galley/doc"
	"galley/rope"
)

// full is a list with its spare room.
func full[T any](list []T) []T { return list[:cap(list)] }

func wipe[T any](list []T, fill T) {
	for i := range full(list) {
		full(list)[i] = fill
	}
}

// spare is a list with room behind it, filled with what must stay.
func spare[T any](list []T, fill T) []T {
	all := slices.Clone(list)
	for range 5 {
		all = append(all, fill)
	}
	return all[:len(list)]
}

var wiped = api.Op{Kind: api.Drop, N: 1, Text: "wiped"}

// The bytes that New is handed stay as they are, and aren't kept.
func TestR6NewBytes(t *testing.T) {
	for _, n := range []int{0, 1, 7, 5000} {
		text := strings.Repeat("a", n)
		b := spare([]byte(text), 'z')
		was := slices.Clone(full(b))
		d, _ := doc.New(b, 2)
		if !slices.Equal(full(b), was) {
			t.Fatalf("%d bytes: they were changed", n)
		}
		wipe(b, 'w')
		if textOf(t, d) != text {
			t.Errorf("%d bytes: they are kept", n)
		}
	}
}

// Edits that are handed in stay as they are, spare room too, and aren't kept; in a group and outside, with an error and without.
func TestR6Edits(t *testing.T) {
	for _, edits := range [][]api.Edit{
		nil, {by(api.Bytes, 0, 0, "x")}, {by(api.Units, 3, 4, "x"), by(api.Runes, 0, 1, ""), by(api.Bytes, 5, 5, "y")}, {by(api.Runes, 1, 2, ""), by(api.Runes, 0, 2, "")}, {by(api.Bytes, 9, 9, "")},
	} {
		x := furnished(t, "a\U0001F600b", 3)
		for range 2 {
			given := spare(edits, by(9, 9, 9, "filler"))
			was := slices.Clone(full(given))
			x.edit(t, api.Exact, given...)
			if !slices.Equal(full(given), was) {
				t.Fatalf("%s became %s", shown(was), shown(full(given)))
			}
			wipe(given, by(api.Bytes, 0, 1, "wiped"))
			x.hold(t)
			x.begin(t)
		}
		x.unwind(t)
	}
}

// A delta likewise.
func TestR6Delta(t *testing.T) {
	for _, s := range []string{"=2 +xy -1 =3", "=6", "-6", "+x -6", "+x =6 +y", "=1 +x =1 +y =1 +z =1 -2", "=7", "=3 =3", "=0", ""} {
		x := furnished(t, "abcdef", 3)
		for range 2 {
			given := spare(written(s), api.Op{Kind: 9, N: 99, Text: "filler"})
			was := slices.Clone(full(given))
			x.apply(t, given)
			if !slices.Equal(full(given), was) {
				t.Fatalf("%s became%s", s, told(full(given)))
			}
			wipe(given, wiped)
			x.hold(t)
			x.begin(t)
		}
		x.unwind(t)
	}
}

// Deltas that are answered are new memory, spare room too: what is done to them is nothing to what is remembered, nor to others.
func TestR6AnsweredDeltas(t *testing.T) {
	for _, group := range []bool{false, true} {
		d, _ := doc.New([]byte("a\u20acb"), 5)
		if group {
			d.Begin()
		}
		var answers, were []api.Delta
		answered := func(x api.Delta, err api.Errno) {
			t.Helper()
			if err != api.OK {
				t.Fatalf("%d", err)
			}
			answers, were = append(answers, x), append(were, slices.Clone(x))
		}
		for i := range 4 {
			x, _, err := d.Edit([]api.Edit{by(api.Runes, i%2, i%2+1, "xyz"), by(api.Bytes, 0, 0, "1")}, api.Exact)
			answered(x, err)
		}
		if group {
			d.End()
		}
		steps, _ := d.Steps()
		for range 3 {
			for range steps {
				answered(d.Undo())
			}
			for range steps {
				answered(d.Redo())
			}
		}
		for i, x := range answers {
			if !slices.Equal(x, were[i]) {
				t.Fatalf("delta %d became%s", i, told(x))
			}
			wipe(x, wiped)
			_ = append(x[:0], slices.Repeat([]api.Op{wiped}, cap(x)+3)...)
			for j := range i {
				if slices.ContainsFunc(full(answers[j]), func(op api.Op) bool { return op != wiped }) {
					t.Fatalf("deltas %d and %d share memory", i, j)
				}
			}
			for j := i + 1; j < len(answers); j++ {
				if !slices.Equal(answers[j], were[j]) {
					t.Fatalf("deltas %d and %d share memory", i, j)
				}
			}
		}
		text := []byte(textOf(t, d))
		for range steps {
			back, err := d.Undo()
			if text, err = delta.Apply(text, back); err != api.OK || string(text) != textOf(t, d) {
				t.Fatalf("Undo: %d, %q, want %q", err, text, textOf(t, d))
			}
		}
		for _, want := range were[len(were)-steps:] {
			if got, err := d.Redo(); !slices.Equal(got, want) || err != api.OK {
				t.Fatalf("Redo:%s, %d, want%s", told(got), err, told(want))
			}
		}
	}
}

// Lists of marks and ranges that are answered are new memory, spare room too.
func TestR6Lists(t *testing.T) {
	for _, text := range []string{"", "a", "a\U0001F600b"} {
		x := furnished(t, text, 3)
		var marks [][]api.Mark
		var ranges [][]api.Range
		for range 3 {
			marks, ranges = append(marks, x.d.Marks()), append(ranges, x.d.Ranges())
		}
		for i := range marks {
			if !slices.Equal(marks[i], x.want.listedMarks()) || !slices.Equal(ranges[i], x.want.listedRanges()) {
				t.Fatalf("%q: lists %d share memory with others", text, i)
			}
			wipe(marks[i], api.Mark{Name: "wiped", Place: -1})
			wipe(ranges[i], api.Range{Name: "wiped", Lo: -1})
			x.hold(t)
		}
		x.unwind(t)
	}
}

// A text that was answered stays what it was, whatever is done to the document.
func TestR6Texts(t *testing.T) {
	x := made(t, strings.Repeat("a\u20ac\r\n", 900), 3)
	var ropes []*rope.Rope
	var were []string
	for i, letter := range []byte("eeeuuurruubeeend eeeeuubud") {
		act(t, x, letter, i)
		ropes, were = append(ropes, x.d.Text()), append(were, x.want.text)
	}
	for i, r := range ropes {
		if b, _ := r.Bytes(0, r.Len()); string(b) != were[i] {
			t.Errorf("text %d became %s, was %s", i, short(string(b)), short(were[i]))
		}
	}
}

// Texts and names that are pieces of long ones don't keep these, neither behind a step nor behind a group.
func TestR6PiecesOfLongTexts(t *testing.T) {
	long := strings.Repeat("piece", 1000)
	first, last := uintptr(unsafe.Pointer(unsafe.StringData(long))), uintptr(unsafe.Pointer(unsafe.StringData(long[len(long)-1:])))
	own := func(call, text string) {
		t.Helper()
		if at := uintptr(unsafe.Pointer(unsafe.StringData(text))); text != "" && at >= first && at <= last {
			t.Errorf("%s: %q is kept as a piece of the text that it was cut out of", call, text)
		}
	}
	d, _ := doc.New([]byte("abc"), 5)
	d.Mark(long[5:10], api.Bytes, 0, api.Left, api.Exact)
	d.Range(long[10:15], api.Bytes, 0, 1, api.Left, api.Left, api.Exact)
	d.Edit([]api.Edit{by(api.Bytes, 0, 0, long[15:20])}, api.Exact)
	d.Apply(api.Delta{keep(8), put(long[20:25])})
	d.Begin()
	d.Edit([]api.Edit{by(api.Bytes, 1, 1, long)}, api.Exact)
	d.Apply(api.Delta{keep(2), drop(4997), keep(14)})
	d.End()
	for range 3 {
		d.Undo()
	}
	for range 3 {
		x, _ := d.Redo()
		for _, op := range x {
			own("Redo", op.Text)
		}
	}
	for _, m := range d.Marks() {
		own("Marks", m.Name)
	}
	for _, r := range d.Ranges() {
		own("Ranges", r.Name)
	}
	runtime.KeepAlive(long)
}

// What is lost is not kept: of the texts that a document once had only those that Undo and Redo can lead to.
func TestP18_2LostTextsAreNotKept(t *testing.T) {
	for _, c := range []struct {
		script string // e: an edit, u: Undo, r: Redo, b: Begin, d: End
		room   int
		want   []int // the texts that are kept, by how many edits there were
	}{
		{"", 0, []int{0}},
		{"e", 0, []int{1}},
		{"eee", 0, []int{3}},
		{"beee", 0, []int{0, 3}},
		{"beeed", 0, []int{3}},
		{"e", 1, []int{0, 1}},
		{"eee", 1, []int{2, 3}},
		{"eee", 2, []int{1, 2, 3}},
		{"eeeeeeee", 3, []int{5, 6, 7, 8}},
		{"eeeu", 3, []int{0, 1, 2, 3}},
		{"eeeue", 3, []int{0, 1, 2, 4}},
		{"eeeuuue", 3, []int{0, 4}},
		{"eeeuuure", 3, []int{0, 1, 4}},
		{"eeeuube", 3, []int{0, 1, 4}},
		{"eeeuubd", 3, []int{0, 1, 2, 3}},
		{"beeed", 2, []int{0, 3}},
		{"ebeeedu", 2, []int{0, 1, 4}},
		{"ebeedbeed", 1, []int{3, 5}},
	} {
		d, texts := played(c.script, c.room)
		runtime.GC()
		for i, w := range texts {
			if kept := w.Value() != nil; kept != slices.Contains(c.want, i) {
				t.Errorf("%q with room for %d: text %d is kept: %v", c.script, c.room, i, kept)
			}
		}
		runtime.KeepAlive(d)
	}
}

// played is a document behind a script, with weak pointers to the texts that it had: the first one, and one for each edit.
func played(script string, room int) (*doc.Doc, []weak.Pointer[rope.Rope]) {
	d, _ := doc.New([]byte("a"), room)
	texts := []weak.Pointer[rope.Rope]{weak.Make(d.Text())}
	for _, letter := range []byte(script) {
		switch letter {
		case 'e':
			d.Edit([]api.Edit{by(api.Bytes, 0, 0, "x")}, api.Exact)
			texts = append(texts, weak.Make(d.Text()))
		case 'u':
			d.Undo()
		case 'r':
			d.Redo()
		case 'b':
			d.Begin()
		case 'd':
			d.End()
		}
	}
	return d, texts
}
