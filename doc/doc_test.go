package doc_test

import (
	"slices"
	"strings"
	"testing"

	"galley/api"
	"galley/doc"
)

// someTexts are texts with whole steps of all widths, bad bytes, and line ends.
var someTexts = []string{
	"", "a", "abc", "\xe2\x82\xac", "a\xe2\x82\xac", "a\U0001F600b", "\U0001F600\U0001F600", "\xff", "\xe2\x82", "a\U0001F600\xe2\x82", "\u00e9\r\n\xf0\x9f\x98", "\r", "\r\n", "\x00\xed\xa0\x80", "\xef\xbf\xbd\xff",
}

// rooms are the numbers of steps for which there may be room, at the edges and between.
var rooms = []int{0, 1, 2, 3, 4095, api.MaxPast}

// noRooms are numbers of steps for which there may be no room.
var noRooms = []int{least, least + 1, -1 << 32, -4096, -1, api.MaxPast + 1, api.MaxPast + 2, 1 << 32, 1<<32 + 1, greatest - 1, greatest}

func TestP18_1New(t *testing.T) {
	for _, text := range append(someTexts, strings.Repeat("a\U0001F600\r\n\xff", 3000)) {
		for _, room := range rooms {
			x := made(t, text, room)
			x.hold(t)
			if x.d.Text() == nil || x.d.Text().Len() != len(text) {
				t.Fatalf("%s: the text has %d bytes", short(text), x.d.Text().Len())
			}
			if x.d.Version() != 0 || len(x.d.Marks()) != 0 || len(x.d.Ranges()) != 0 {
				t.Errorf("%s: version %d, %v, %v", short(text), x.d.Version(), x.d.Marks(), x.d.Ranges())
			}
			if back, again := x.d.Steps(); back != 0 || again != 0 {
				t.Errorf("%s: %d steps back, %d again", short(text), back, again)
			}
			if x.undo(t) != api.ErrPast || x.redo(t) != api.ErrPast || x.end(t) != api.ErrOpen {
				t.Errorf("%s: something was done already", short(text))
			}
		}
		for _, room := range noRooms {
			if d, err := doc.New([]byte(text), room); d != nil || err != api.ErrRange {
				t.Errorf("New(%s, %d): nil: %v, %d", short(text), room, d == nil, err)
			}
		}
	}
}

// ErrLong comes ahead of ErrRange.
func TestP18_1NewLong(t *testing.T) {
	long := []byte(tooLong())
	for _, room := range append(noRooms, rooms...) {
		if d, err := doc.New(long, room); d != nil || err != api.ErrLong {
			t.Errorf("New of %d bytes, %d: nil: %v, %d", len(long), room, d == nil, err)
		}
	}
	if d, err := doc.New(long[:api.MaxText], -1); d != nil || err != api.ErrRange {
		t.Errorf("New of %d bytes, -1: nil: %v, %d", api.MaxText, d == nil, err)
	}
}

// A text that is nil is one without bytes.
func TestR5NewOfNothing(t *testing.T) {
	for _, b := range [][]byte{nil, {}, []byte("abc")[:0]} {
		d, err := doc.New(b, 1)
		if err != api.OK || d.Text() == nil || d.Text().Len() != 0 {
			t.Errorf("New: %d, %d bytes", err, d.Text().Len())
		}
	}
}

// The chapter's examples, one behind the other.
func TestP18Examples(t *testing.T) {
	d, _ := doc.New([]byte("a\xe2\x82\xac"), 2)
	is := func(call string, got api.Delta, err api.Errno, want ...api.Op) {
		t.Helper()
		if !slices.Equal(got, want) || err != api.OK {
			t.Errorf("%s:%s, %d, want%s", call, told(got), err, told(want))
		}
	}
	edit := func(mode api.Mode, edits ...api.Edit) (api.Delta, api.Errno) {
		x, at, err := d.Edit(edits, mode)
		if at != 0 {
			t.Errorf("Edit(%s, %d): at %d", shown(edits), mode, at)
		}
		return x, err
	}
	number := func(call string, got, want int) {
		t.Helper()
		if got != want {
			t.Errorf("%s: %d, want %d", call, got, want)
		}
	}
	marked := func(u api.Ruler, want int) {
		t.Helper()
		if got, err := d.Marked("m", u); got != want || err != api.OK {
			t.Errorf("Marked(m, %d): %d, %d, want %d", u, got, err, want)
		}
	}
	steps := func(wantBack, wantAgain int) {
		t.Helper()
		if back, again := d.Steps(); back != wantBack || again != wantAgain {
			t.Errorf("Steps: %d, %d, want %d, %d", back, again, wantBack, wantAgain)
		}
	}
	number("Mark", int(d.Mark("m", api.Runes, 2, api.Right, api.Exact)), 0)
	marked(api.Bytes, 4)
	x, err := edit(api.Exact, by(api.Units, 1, 1, "\xf0\x9f\x98\x80"))
	is("Edit", x, err, keep(1), put("\xf0\x9f\x98\x80"), keep(3))
	number("Version", d.Version(), 1)
	marked(api.Units, 4)
	marked(api.Bytes, 8)
	x, err = edit(api.Down, by(api.Bytes, 2, 3, ""))
	is("Edit that parts an encoding", x, err, keep(2), drop(1), keep(5))
	if z := d.Text().Weld().Sizes; z != (api.Sizes{Bytes: 7, Runes: 5, Units: 5}) {
		t.Errorf("Sizes: %+v", z)
	}
	x, err = d.Undo()
	is("Undo", x, err, keep(2), put("\x9f"), keep(5))
	number("Version", d.Version(), 3)
	x, err = d.Undo()
	is("Undo", x, err, keep(1), drop(4), keep(3))
	steps(0, 2)
	marked(api.Bytes, 4)
	x, err = d.Undo()
	if len(x) != 0 || err != api.ErrPast {
		t.Errorf("Undo:%s, %d", told(x), err)
	}
	x, err = d.Redo()
	is("Redo", x, err, keep(1), put("\xf0\x9f\x98\x80"), keep(3))
	number("Apply(keep 8)", int(d.Apply(written("=8"))), 0)
	number("Version", d.Version(), 5)
	steps(1, 1)
	number("Begin", int(d.Begin()), 0)
	edit(api.Exact, by(api.Runes, 0, 1, ""))
	edit(api.Exact, by(api.Runes, 0, 0, "b"))
	number("End", int(d.End()), 0)
	steps(2, 0)
	x, err = d.Undo()
	is("Undo of the group", x, err, put("a"), drop(1), keep(7))
	if x, at, err := d.Edit([]api.Edit{by(api.Runes, 9, 9, "")}, api.Exact); len(x) != 0 || at != 0 || err != api.ErrRange {
		t.Errorf("Edit outside:%s, %d, %d", told(x), at, err)
	}
	x, err = edit(api.Exact)
	is("Edit without edits", x, err, keep(8))
	number("Version", d.Version(), 8)
	steps(1, 1)
}

// A nil document tells ErrNil ahead of all that is wrong with what is handed in, and answers as an empty one where there is no error.
func TestR7Nil(t *testing.T) {
	var d *doc.Doc
	refused := func(call string, err api.Errno) {
		t.Helper()
		if err != api.ErrNil {
			t.Errorf("%s: %d", call, err)
		}
	}
	if d.Text() != nil || d.Version() != 0 || len(d.Marks()) != 0 || len(d.Ranges()) != 0 {
		t.Errorf("%v, %d, %v, %v", d.Text(), d.Version(), d.Marks(), d.Ranges())
	}
	if back, again := d.Steps(); back != 0 || again != 0 {
		t.Errorf("Steps: %d, %d", back, again)
	}
	for _, edits := range [][]api.Edit{nil, {}, {by(api.Bytes, 0, 0, "")}, {by(api.Bytes, 0, 0, "x"), by(9, -1, 3, "")}, make([]api.Edit, api.MaxEdits+1)} {
		for _, m := range append(noModes, modes...) {
			x, at, err := d.Edit(edits, m)
			refused("Edit", err)
			if len(x) != 0 || at != 0 {
				t.Errorf("Edit:%s, %d", told(x), at)
			}
		}
	}
	for _, x := range []api.Delta{nil, {}, written("+x"), written("=3"), written("=0"), {put(tooLong())}} {
		refused("Apply", d.Apply(x))
	}
	for call, f := range map[string]func() (api.Delta, api.Errno){"Undo": d.Undo, "Redo": d.Redo} {
		x, err := f()
		refused(call, err)
		if len(x) != 0 {
			t.Errorf("%s:%s", call, told(x))
		}
	}
	refused("Begin", d.Begin())
	refused("End", d.End())
	for _, name := range []string{"", "a", strings.Repeat("a", 65)} {
		for _, u := range append(noRulers, rulers...) {
			refused("Mark", d.Mark(name, u, 0, api.Left, api.Exact))
			refused("Mark", d.Mark(name, u, -1, 9, 9))
			refused("Range", d.Range(name, u, 0, 0, api.Left, api.Right, api.Down))
			refused("Range", d.Range(name, u, 3, -1, 9, 9, 9))
			place, err := d.Marked(name, u)
			refused("Marked", err)
			if place != 0 {
				t.Errorf("Marked: %d", place)
			}
		}
		refused("Unmark", d.Unmark(name))
		refused("Unrange", d.Unrange(name))
	}
}

// Documents don't touch one another, also where they are of one text.
func TestR9TwoDocuments(t *testing.T) {
	one, other := made(t, "a\u20acb", 2), made(t, "a\u20acb", 2)
	one.mark(t, "m", api.Runes, 2, api.Left, api.Exact)
	one.edit(t, api.Exact, by(api.Units, 1, 2, "xyz"))
	other.hold(t)
	other.edit(t, api.Exact, by(api.Units, 0, 1, ""))
	other.begin(t)
	one.hold(t)
	one.undo(t)
	one.hold(t)
	other.hold(t)
}
