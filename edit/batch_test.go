package edit_test

import (
	"fmt"
	"math/rand"
	"slices"
	"testing"

	"galley/api"
	"galley/edit"
	"galley/rope"
)

func TestP12_4Examples(t *testing.T) {
	t.Parallel()
	r := made(t, []byte(face))
	for _, c := range []struct {
		edits []api.Edit
		want  []api.Change
		at    int
		err   api.Errno
	}{
		{[]api.Edit{{Ruler: api.Runes, Lo: 2, Hi: 3, Text: "c"}, {Ruler: api.Runes, Text: "p"}, {Ruler: api.Runes, Text: "q"}}, []api.Change{{Text: "p"}, {Text: "q"}, {Lo: 5, Hi: 6, Text: "c"}}, 0, api.OK},
		{[]api.Edit{{Ruler: api.Runes, Lo: 0, Hi: 2}, {Ruler: api.Units, Lo: 1, Hi: 1, Text: "x"}}, nil, 1, api.ErrCross},
		{[]api.Edit{{Ruler: api.Runes, Lo: 0, Hi: 1}, {Ruler: api.Units, Lo: 1, Hi: 1, Text: "x"}, {Ruler: api.Units, Lo: 1, Hi: 3, Text: "y"}}, []api.Change{{Lo: 0, Hi: 1}, {Lo: 1, Hi: 1, Text: "x"}, {Lo: 1, Hi: 5, Text: "y"}}, 0, api.OK},
		{[]api.Edit{{Ruler: api.Runes, Lo: 0, Hi: 9}}, nil, 0, api.ErrRange},
	} {
		if got, at, err := edit.Batch(r, c.edits, api.Exact); !slices.Equal(got, c.want) || at != c.at || err != c.err {
			t.Errorf("%v: %v, %d, %d, want %v, %d, %d", c.edits, got, at, err, c.want, c.at, c.err)
		}
	}
}

// fault: an edit that can't be resolved, and the error of that.
type fault struct {
	e   api.Edit
	err api.Errno
}

// faults are of the text face by the mode Exact.
var faults = []fault{
	{api.Edit{Ruler: 0, Lo: 9, Hi: 8}, api.ErrRuler},
	{api.Edit{Ruler: 4}, api.ErrRuler},
	{api.Edit{Ruler: api.Bytes, Lo: 0, Hi: 7}, api.ErrRange},
	{api.Edit{Ruler: api.Runes, Lo: 2, Hi: 1}, api.ErrRange},
	{api.Edit{Ruler: api.Units, Lo: least, Hi: greatest}, api.ErrRange},
	{api.Edit{Ruler: api.Units, Lo: 2, Hi: 2}, api.ErrInside},
	{api.Edit{Ruler: api.Units, Lo: 0, Hi: 2}, api.ErrInside},
}

// The place told beside an error is that of the first edit at fault, however the edits ahead of it stand and whatever comes behind it.
func TestP12_4WhichIsAtFault(t *testing.T) {
	t.Parallel()
	m, r := modelOf([]byte(face)), made(t, []byte(face))
	long := api.Edit{Ruler: api.Bytes, Lo: 6, Hi: 6, Text: tooLong()}
	all := append(slices.Clone(faults), fault{long, api.ErrLong})
	fine := []api.Edit{{Ruler: api.Bytes, Lo: 5, Hi: 6}, {Ruler: api.Runes, Lo: 0, Hi: 1, Text: "x"}, {Ruler: api.Units, Lo: 1, Hi: 1, Text: "y"}}
	cross := api.Edit{Ruler: api.Bytes, Lo: 0, Hi: 3}
	for _, f := range all {
		for ahead := range len(fine) + 1 {
			for _, other := range all {
				edits := append(slices.Clone(fine[:ahead]), f.e, other.e)
				if got, at, err := edit.Batch(r, edits, api.Exact); len(got) != 0 || at != ahead || err != f.err {
					t.Fatalf("%d ahead: %v, %d, %d, want %d, %d", ahead, got, at, err, ahead, f.err)
				}
			}
		}
		// One that crosses is told, where it stands ahead of the one with another error; else that one is.
		edits := append(slices.Clone(fine), cross, f.e)
		if got, at, err := edit.Batch(r, edits, api.Exact); len(got) != 0 || at != 3 || err != api.ErrCross {
			t.Fatalf("cross ahead: %v, %d, %d", got, at, err)
		}
		edits = append(slices.Clone(fine), f.e, cross)
		if got, at, err := edit.Batch(r, edits, api.Exact); len(got) != 0 || at != 3 || err != f.err {
			t.Fatalf("cross behind: %v, %d, %d, want %d", got, at, err, f.err)
		}
	}
	for _, mode := range noModes {
		m.holdBatch(t, r, fine, mode)
		m.holdBatch(t, r, nil, mode)
	}
	// The one behind in the list is told, however they stand in the text; with several, the first of these.
	for _, c := range []struct {
		edits []api.Edit
		at    int
	}{
		{[]api.Edit{{Ruler: api.Bytes, Lo: 3, Hi: 5}, {Ruler: api.Bytes, Lo: 0, Hi: 4}}, 1},
		{[]api.Edit{{Ruler: api.Bytes, Lo: 3, Hi: 5}, {Ruler: api.Bytes, Lo: 0, Hi: 2}, {Ruler: api.Bytes, Lo: 4, Hi: 6}, {Ruler: api.Bytes, Lo: 1, Hi: 1}}, 2},
		{[]api.Edit{{Ruler: api.Bytes, Lo: 1, Hi: 1}, {Ruler: api.Bytes, Lo: 4, Hi: 6}, {Ruler: api.Bytes, Lo: 3, Hi: 3}, {Ruler: api.Bytes, Lo: 0, Hi: 4}, {Ruler: api.Bytes, Lo: 5, Hi: 5}}, 3},
	} {
		if got, at, err := edit.Batch(r, c.edits, api.Down); len(got) != 0 || at != c.at || err != api.ErrCross {
			t.Errorf("%v: %v, %d, %d, want %d", c.edits, got, at, err, c.at)
		}
	}
}

// rows calls f with every list of n out of some, in every order.
func rows[T any](n int, some []T, f func(list []T)) {
	list := make([]T, n)
	var fill func(i int)
	fill = func(i int) {
		if i == n {
			f(list)
			return
		}
		for _, x := range some {
			list[i] = x
			fill(i + 1)
		}
	}
	fill(0)
}

// All lists of up to three edits by bytes, and of up to two by any ruler, of short texts: those that touch, that cross, at one place, and that are at fault.
func TestP12_4ShortLists(t *testing.T) {
	t.Parallel()
	named := func(list []api.Edit) []api.Edit {
		list = slices.Clone(list)
		for i := range list {
			list[i].Text = list[i].Text + fmt.Sprint(i)
		}
		return list
	}
	b := []byte("a\r\n\xf0")
	m, r := modelOf(b), made(t, b)
	spans := []api.Edit{{Ruler: api.Bytes, Lo: 0, Hi: 5}}
	for lo := range len(b) + 1 {
		for hi := lo; hi <= len(b); hi++ {
			spans = append(spans, api.Edit{Ruler: api.Bytes, Lo: lo, Hi: hi})
		}
	}
	for n := range 4 {
		rows(n, spans, func(list []api.Edit) { m.holdBatch(t, r, named(list), api.Exact) })
	}
	for _, text := range []string{"", "\U0001F600", "\u00e9\U0001F600", "\xf0\x9f\r\n"} {
		m, r := modelOf([]byte(text)), made(t, []byte(text))
		var edits []api.Edit
		for _, u := range rulers {
			for lo := -1; lo <= m.size(u)+1; lo++ {
				for hi := lo; hi <= m.size(u)+1; hi++ {
					edits = append(edits, api.Edit{Ruler: u, Lo: lo, Hi: hi})
				}
			}
		}
		for _, mode := range modes {
			for n := range 3 {
				rows(n, edits, func(list []api.Edit) { m.holdBatch(t, r, named(list), mode) })
			}
		}
	}
}

// someEdits are edits of a text by any ruler, most of which take out nothing or little.
func someEdits(rng *rand.Rand, m *model, n, wide int) []api.Edit {
	var edits []api.Edit
	for i := range n {
		u := rulers[rng.Intn(3)]
		lo := rng.Intn(m.size(u) + 1)
		e := api.Edit{Ruler: u, Lo: lo, Hi: lo, Text: putTexts[rng.Intn(len(putTexts))] + fmt.Sprint(i)}
		if rng.Intn(3) == 0 {
			e.Hi = min(m.size(u), lo+rng.Intn(wide+1))
		}
		edits = append(edits, e)
	}
	return edits
}

// Lists by chance, of texts of many makes; with so many edits some lists cross, and some don't.
func TestP12_4And5And7Lists(t *testing.T) {
	t.Parallel()
	rng := rand.New(rand.NewSource(12))
	longTexts(func(_ string, b []byte) {
		m := modelOf(b)
		for i := range 6 {
			r := ways[rng.Intn(len(ways))].make(t, b)
			m.holdBatch(t, r, someEdits(rng, m, rng.Intn(40), 1+i*i*9), modes[rng.Intn(3)])
		}
	})
	oks := 0
	for range 4000 {
		b := steps(rng.Intn(30), rng.Int63())
		m, r := modelOf(b), ways[rng.Intn(len(ways)-3)].make(t, b)
		edits, mode := someEdits(rng, m, rng.Intn(9), 3), modes[rng.Intn(3)]
		m.holdBatch(t, r, edits, mode)
		if cs, _, err := edit.Batch(r, edits, mode); err == api.OK && len(cs) > 1 {
			oks++
			holdOneByOne(t, r, cs)
			holdAnyOrder(t, rng, r, edits, mode)
		}
	}
	if oks < 200 {
		t.Errorf("only %d lists had changes", oks)
	}
}

// holdOneByOne: ApplyAll of what Batch answers is what comes of doing the changes one by one from the last to the first.
func holdOneByOne(t testing.TB, r *rope.Rope, cs []api.Change) {
	t.Helper()
	want := r
	for _, c := range slices.Backward(cs) {
		next, err := edit.Apply(want, c)
		if err != api.OK {
			t.Fatalf("Apply(%v): %d", c, err)
		}
		want = next
	}
	got, err := edit.ApplyAll(r, cs)
	if err != api.OK || !rope.Same(got, want) {
		t.Fatalf("%s: ApplyAll(%v): %q, %d, want %q", short(textOf(t, r)), cs, textOf(t, got), err, textOf(t, want))
	}
}

// holdAnyOrder: however the list is turned, the changes are the same; of those that put a text at one place the order is the list's.
func holdAnyOrder(t testing.TB, rng *rand.Rand, r *rope.Rope, edits []api.Edit, mode api.Mode) {
	t.Helper()
	cs, _, _ := edit.Batch(r, edits, mode)
	turned := slices.Clone(edits)
	rng.Shuffle(len(turned), func(i, j int) { turned[i], turned[j] = turned[j], turned[i] })
	got, at, err := edit.Batch(r, turned, mode)
	if err != api.OK || at != 0 || len(got) != len(cs) {
		t.Fatalf("%v: %d, %d", turned, at, err)
	}
	for i, c := range got {
		if c.Lo != cs[i].Lo || c.Hi != cs[i].Hi || c.Lo < c.Hi && c != cs[i] {
			t.Fatalf("%v: %v, want %v", turned, got, cs)
		}
		if i > 0 && c.Lo == c.Hi && got[i-1].Lo == got[i-1].Hi && c.Lo == got[i-1].Lo && place(t, r, turned, mode, got[i-1]) > place(t, r, turned, mode, c) {
			t.Fatalf("%v: %v", turned, got)
		}
	}
}

// place: which edit of the list has a change. (Their texts are unlike.)
func place(t testing.TB, r *rope.Rope, edits []api.Edit, mode api.Mode, c api.Change) int {
	t.Helper()
	return slices.IndexFunc(edits, func(e api.Edit) bool {
		got, _ := edit.Resolve(r, e, mode)
		return got == c
	})
}

// Each that puts a text at one place, in every order of the list: they stand in the list's order, ahead of one that takes bytes out from there on, and behind one that takes them out up to there.
func TestP12_4And7OnePlace(t *testing.T) {
	t.Parallel()
	r := made(t, []byte(face))
	puts := []api.Edit{
		{Ruler: api.Bytes, Lo: 5, Hi: 5, Text: "p"},
		{Ruler: api.Runes, Lo: 2, Hi: 2, Text: "q"},
		{Ruler: api.Units, Lo: 3, Hi: 3, Text: "r"},
		{Ruler: api.Bytes, Lo: 1, Hi: 5, Text: "F"},
		{Ruler: api.Units, Lo: 3, Hi: 4, Text: "B"},
	}
	orders := 0
	rows(len(puts), puts, func(list []api.Edit) {
		for i := range list {
			if slices.Contains(list[:i], list[i]) {
				return
			}
		}
		orders++
		want := []api.Change{{Lo: 1, Hi: 5, Text: "F"}}
		put := ""
		for _, e := range list {
			if e.Lo == e.Hi {
				want = append(want, api.Change{Lo: 5, Hi: 5, Text: e.Text})
				put += e.Text
			}
		}
		want = append(want, api.Change{Lo: 5, Hi: 6, Text: "B"})
		got, at, err := edit.Batch(r, list, api.Exact)
		if !slices.Equal(got, want) || at != 0 || err != api.OK {
			t.Fatalf("%v: %v, %d, %d, want %v", list, got, at, err, want)
		}
		if all, err := edit.ApplyAll(r, got); err != api.OK || string(textOf(t, all)) != "aF"+put+"B" {
			t.Fatalf("%v: %q, %d", list, textOf(t, all), err)
		}
		holdOneByOne(t, r, got)
	})
	if orders != 120 {
		t.Errorf("%d orders", orders)
	}
}

// Batches and changes of MaxEdits, and of one more.
func TestP12_4And5MaxEdits(t *testing.T) {
	t.Parallel()
	r := made(t, []byte(face))
	many := make([]api.Edit, api.MaxEdits+1)
	want := ""
	for i := range many {
		text := fmt.Sprint(i, " ")
		many[i] = api.Edit{Ruler: rulers[i%3], Lo: 1, Hi: 1, Text: text}
		if i < api.MaxEdits {
			want += text
		}
	}
	got, at, err := edit.Batch(r, many[:api.MaxEdits], api.Exact)
	if len(got) != api.MaxEdits || at != 0 || err != api.OK {
		t.Fatalf("%d, %d, %d", len(got), at, err)
	}
	for i, c := range got {
		if c != (api.Change{Lo: 1, Hi: 1, Text: many[i].Text}) {
			t.Fatalf("change %d is %v", i, c)
		}
	}
	all, err := edit.ApplyAll(r, got)
	if err != api.OK || string(textOf(t, all)) != "a"+want+face[1:] {
		t.Fatalf("%d bytes, %d", all.Len(), err)
	}
	if got, at, err := edit.Batch(r, many, api.Exact); len(got) != 0 || at != 0 || err != api.ErrMany {
		t.Errorf("%d, %d, %d", len(got), at, err)
	}
	// ErrMany stands ahead of all that is wrong with the edits, and behind ErrNil.
	many[0] = api.Edit{Ruler: 9, Lo: -1}
	many[2], many[1] = api.Edit{Ruler: api.Bytes, Lo: 0, Hi: 6}, api.Edit{Ruler: api.Bytes, Lo: 0, Hi: 6}
	if got, at, err := edit.Batch(r, many, 0); len(got) != 0 || at != 0 || err != api.ErrMany {
		t.Errorf("%d, %d, %d", len(got), at, err)
	}
	if got, at, err := edit.Batch(nil, many, 0); len(got) != 0 || at != 0 || err != api.ErrNil {
		t.Errorf("%d, %d, %d", len(got), at, err)
	}
	more := append(got, api.Change{Lo: 9, Hi: 8})
	if all, err := edit.ApplyAll(r, more); all != nil || err != api.ErrMany {
		t.Errorf("%v, %d", all, err)
	}
	if all, err := edit.ApplyAll(nil, more); all != nil || err != api.ErrNil {
		t.Errorf("%v, %d", all, err)
	}
	if all, err := edit.ApplyAll(r, more[1:]); all != nil || err != api.ErrRange {
		t.Errorf("%v, %d", all, err)
	}
}

// Many edits all over a long text, in an order by chance; and with one that crosses at some place of the list.
func TestP12_4And5ManyPlaces(t *testing.T) {
	t.Parallel()
	b := steps(70000, 4)
	m, r := modelOf(b), made(t, b)
	rng := rand.New(rand.NewSource(4))
	var edits []api.Edit
	for i := 0; i+4 < len(m.edges) && len(edits) < 3000; i += 1 + rng.Intn(8) {
		u := rulers[rng.Intn(3)]
		j := i + rng.Intn(4)
		edits = append(edits, api.Edit{Ruler: u, Lo: m.edges[i].by(u), Hi: m.edges[j].by(u), Text: fmt.Sprint(len(edits))})
		i = j
	}
	rng.Shuffle(len(edits), func(i, j int) { edits[i], edits[j] = edits[j], edits[i] })
	m.holdBatch(t, r, edits, api.Exact)
	cs, _, err := edit.Batch(r, edits, api.Exact)
	if err != api.OK {
		t.Fatal(err)
	}
	holdOneByOne(t, r, cs)
	for _, at := range []int{1, 2, 1000, len(edits) - 1} {
		bad := slices.Clone(edits)
		i := slices.IndexFunc(bad[:at], func(e api.Edit) bool { return e.Lo < e.Hi })
		if i < 0 {
			continue
		}
		bad[at] = bad[i]
		if got, where, err := edit.Batch(r, bad, api.Exact); len(got) != 0 || where != at || err != api.ErrCross {
			t.Errorf("%d: %d, %d", at, where, err)
		}
	}
}

// Each alone would fit, and all together are too long: then no edit is told. What others take out counts, wherever it stands.
func TestP12_4And5TooLongTogether(t *testing.T) {
	t.Parallel()
	full := doubled(t, []byte("12345678"), 25)
	less, _ := split(t, full, api.MaxText-2)
	end := less.Len()
	put := func(place int, text string) api.Edit {
		return api.Edit{Ruler: api.Bytes, Lo: place, Hi: place, Text: text}
	}
	drop := func(lo, hi int) api.Edit { return api.Edit{Ruler: api.Bytes, Lo: lo, Hi: hi} }
	for _, c := range []struct {
		name  string
		edits []api.Edit
		at    int
		err   api.Errno
	}{
		{"as many as may be", []api.Edit{put(0, "x"), put(end, "y")}, 0, api.OK},
		{"one more", []api.Edit{put(0, "x"), put(end, "yz")}, 0, api.ErrLong},
		{"one more, by three", []api.Edit{put(4, "x"), put(3, "y"), put(end, "z")}, 0, api.ErrLong},
		{"one more, and one less ahead", []api.Edit{put(4, "xy"), put(end, "z"), drop(0, 1)}, 0, api.OK},
		{"one more, and one less behind", []api.Edit{put(0, "xy"), put(1, "z"), drop(end-1, end)}, 0, api.OK},
		{"two more, and one less", []api.Edit{put(0, "xy"), put(1, "zz"), drop(end-1, end)}, 0, api.ErrLong},
		{"one is too long alone", []api.Edit{put(0, "xy"), drop(4, 99), put(2, "xyz")}, 2, api.ErrLong},
		{"too long together, and a cross", []api.Edit{put(0, "xy"), put(0, "xy"), drop(4, 6), put(5, "")}, 3, api.ErrCross},
		{"too long together, and no ruler", []api.Edit{put(0, "xy"), put(0, "xy"), {}}, 2, api.ErrRuler},
		{"a cross, and too long alone", []api.Edit{drop(4, 6), put(5, ""), put(0, "xyz")}, 1, api.ErrCross},
	} {
		got, at, err := edit.Batch(less, c.edits, api.Down)
		if (len(got) == 0) != (c.err != api.OK) || at != c.at || err != c.err {
			t.Errorf("%s: %v, %d, %d, want %d, %d", c.name, got, at, err, c.at, c.err)
		}
		if err != api.OK {
			continue
		}
		all, err := edit.ApplyAll(less, got)
		if err != api.OK || all.Len() != api.MaxText {
			t.Errorf("%s: ApplyAll: %d", c.name, err)
		}
	}
}

func TestP12_5Examples(t *testing.T) {
	t.Parallel()
	r, long := made(t, []byte(face)), tooLong()
	for _, c := range []struct {
		cs   []api.Change
		want string
		err  api.Errno
	}{
		{[]api.Change{{Lo: 1, Hi: 5, Text: "y"}, {Lo: 0, Hi: 1}}, "", api.ErrCross},
		{nil, face, api.OK},
		{[]api.Change{}, face, api.OK},
		{[]api.Change{{Lo: 0, Hi: 1, Text: "x"}, {Lo: 1, Hi: 5, Text: "y"}, {Lo: 5, Hi: 6, Text: "z"}}, "xyz", api.OK},
		{[]api.Change{{Lo: 1, Hi: 5, Text: "y"}, {Lo: 5, Hi: 5, Text: "1"}, {Lo: 5, Hi: 5, Text: "2"}}, "ay12b", api.OK},
		{[]api.Change{{Lo: 1, Hi: 5, Text: "y"}, {Lo: 1, Hi: 1, Text: "1"}}, "", api.ErrCross},
		{[]api.Change{{Lo: 1, Hi: 1, Text: "1"}, {Lo: 1, Hi: 5, Text: "y"}}, "a1yb", api.OK},
		{[]api.Change{{Lo: 3, Hi: 3, Text: "1"}, {Lo: 2, Hi: 2, Text: "y"}}, "", api.ErrCross},
		{[]api.Change{{Lo: 2, Hi: 3}, {Lo: 4, Hi: 5, Text: "\r"}}, "a\xf0\x98\rb", api.OK},
		{[]api.Change{{Lo: 1, Hi: 5}, {Lo: 4, Hi: 6}}, "", api.ErrCross},
		{[]api.Change{{Lo: 1, Hi: 5}, {Lo: 4, Hi: 7}}, "", api.ErrRange},
		{[]api.Change{{Lo: 1, Hi: 5}, {Lo: 0, Hi: 1}, {Lo: 2, Hi: 1}}, "", api.ErrRange},
		{[]api.Change{{Lo: -1, Hi: 0}}, "", api.ErrRange},
		{[]api.Change{{Lo: least, Hi: greatest, Text: long}}, "", api.ErrRange},
		{[]api.Change{{Lo: 0, Hi: 6, Text: long}}, "", api.ErrLong},
		{[]api.Change{{Lo: 0, Hi: 0, Text: long}, {Lo: 0, Hi: 7}}, "", api.ErrRange},
		{[]api.Change{{Lo: 0, Hi: 6, Text: long}, {Lo: 5, Hi: 5}}, "", api.ErrCross},
		{[]api.Change{{Lo: 0, Hi: 0, Text: long[:api.MaxText-6]}, {Lo: 1, Hi: 1, Text: "x"}}, "", api.ErrLong},
	} {
		got, err := edit.ApplyAll(r, c.cs)
		if err != c.err || (got == nil) != (err != api.OK) || err == api.OK && string(textOf(t, got)) != c.want {
			t.Errorf("%d changes: %d, want %q, %d", len(c.cs), err, c.want, c.err)
		}
	}
	if got, err := edit.ApplyAll(nil, nil); got != nil || err != api.ErrNil {
		t.Errorf("%v, %d", got, err)
	}
	if got, err := edit.ApplyAll(nil, []api.Change{{Lo: 2, Hi: 1}}); got != nil || err != api.ErrNil {
		t.Errorf("%v, %d", got, err)
	}
}

// All lists of up to three changes of a short text, whether they rise or don't, and with some that don't fit.
func TestP12_5ShortLists(t *testing.T) {
	t.Parallel()
	b := []byte("\xe2\x82\xac\r")
	m, r := modelOf(b), made(t, b)
	var cs []api.Change
	for lo := -1; lo <= len(b)+1; lo++ {
		for hi := max(lo-1, 0); hi <= len(b)+1; hi++ {
			cs = append(cs, api.Change{Lo: lo, Hi: hi, Text: putTexts[len(cs)%len(putTexts)]})
		}
	}
	for n := range 4 {
		rows(n, cs, func(list []api.Change) { m.holdApplyAll(t, r, list) })
	}
}

// Rising lists by chance, of texts of many makes.
func TestP12_5LongTexts(t *testing.T) {
	t.Parallel()
	rng := rand.New(rand.NewSource(5))
	longTexts(func(_ string, b []byte) {
		m := modelOf(b)
		for range 3 {
			r := ways[rng.Intn(len(ways))].make(t, b)
			var cs []api.Change
			wide := 1 + rng.Intn(3000)
			for at := rng.Intn(wide); at < len(b); at += rng.Intn(wide) {
				c := api.Change{Lo: at, Hi: min(len(b), at+rng.Intn(wide)*rng.Intn(2)), Text: putTexts[rng.Intn(len(putTexts))]}
				if rng.Intn(20) == 0 {
					c.Text = string(steps(5000, rng.Int63()))
				}
				cs = append(cs, c)
				at = c.Hi
			}
			m.holdApplyAll(t, r, cs)
			holdOneByOne(t, r, cs)
		}
	})
}

// spare is a list with room behind it, filled with what must stay.
func spare[T any](list []T, fill T) []T {
	all := slices.Clone(list)
	for range 5 {
		all = append(all, fill)
	}
	return all[:len(list)]
}

// full is a list with its spare room.
func full[T any](list []T) []T { return list[:cap(list)] }

// Lists that are handed in stay as they are, with their spare room, and aren't kept; a list that is answered is new memory.
func TestR6Lists(t *testing.T) {
	t.Parallel()
	r := made(t, []byte(face))
	fill := api.Edit{Ruler: 7, Lo: 7, Hi: 7, Text: "7"}
	edits := spare([]api.Edit{{Ruler: api.Runes, Lo: 2, Hi: 3, Text: "c"}, {Ruler: api.Runes, Text: "p"}, {Ruler: api.Runes, Text: "q"}}, fill)
	was := slices.Clone(full(edits))
	want := []api.Change{{Text: "p"}, {Text: "q"}, {Lo: 5, Hi: 6, Text: "c"}}
	first, _, _ := edit.Batch(r, edits, api.Exact)
	second, _, _ := edit.Batch(r, edits, api.Exact)
	if !slices.Equal(full(edits), was) {
		t.Errorf("the edits became %v", full(edits))
	}
	for i := range full(first) {
		full(first)[i] = api.Change{Lo: 9, Hi: 9, Text: "9"}
	}
	for i := range full(edits) {
		full(edits)[i] = fill
	}
	if !slices.Equal(second, want) {
		t.Errorf("the second answer became %v", second)
	}

	cs := spare(want, api.Change{Lo: 8, Hi: 8, Text: "8"})
	kept := slices.Clone(full(cs))
	all, err := edit.ApplyAll(r, cs)
	if err != api.OK || !slices.Equal(full(cs), kept) {
		t.Errorf("the changes became %v, %d", full(cs), err)
	}
	for i := range full(cs) {
		full(cs)[i] = api.Change{}
	}
	if string(textOf(t, all)) != "pqa\U0001F600c" || string(textOf(t, r)) != face {
		t.Errorf("%q, %q", textOf(t, all), textOf(t, r))
	}
	// An error changes nothing of them either.
	edits = spare([]api.Edit{{Ruler: api.Runes, Lo: 2, Hi: 3}, {Ruler: api.Runes, Hi: 1}, {Ruler: api.Bytes, Hi: 3}}, fill)
	was = slices.Clone(full(edits))
	if _, at, err := edit.Batch(r, edits, api.Exact); at != 2 || err != api.ErrCross || !slices.Equal(full(edits), was) {
		t.Errorf("%v, %d, %d", full(edits), at, err)
	}
	cs = spare([]api.Change{{Lo: 3, Hi: 4}, {Lo: 2, Hi: 3}, {Lo: 1, Hi: 2}}, api.Change{})
	kept = slices.Clone(full(cs))
	if _, err := edit.ApplyAll(r, cs); err != api.ErrCross || !slices.Equal(full(cs), kept) {
		t.Errorf("%v, %d", full(cs), err)
	}
}

// Every rope that is answered is another one than that handed in, also where nothing is changed; and that one stays as it is.
func TestR6Ropes(t *testing.T) {
	t.Parallel()
	for _, text := range []string{"", face, string(steps(9000, 9))} {
		r := made(t, []byte(text))
		one, errOne := edit.Apply(r, api.Change{})
		none, errNone := edit.ApplyAll(r, nil)
		some, errSome := edit.ApplyAll(r, []api.Change{{}, {Lo: len(text), Hi: len(text)}})
		if errOne != api.OK || errNone != api.OK || errSome != api.OK {
			t.Fatal(errOne, errNone, errSome)
		}
		for _, got := range []*rope.Rope{one, none, some} {
			if got == r || !rope.Same(got, r) {
				t.Errorf("%s: %s", short([]byte(text)), short(textOf(t, got)))
			}
		}
		edit.Apply(r, api.Change{Lo: 0, Hi: len(text), Text: "x"})
		edit.ApplyAll(r, []api.Change{{Lo: 0, Hi: len(text) / 2, Text: "x"}, {Lo: len(text), Hi: len(text), Text: "y"}})
		if string(textOf(t, r)) != text {
			t.Errorf("it became %s", short(textOf(t, r)))
		}
	}
}
