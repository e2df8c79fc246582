package doc_test

import (
	"cmp"
	"fmt"
	"math"
	"slices"
	"strings"
	"sync"
	"testing"

	"galley/api"
	"galley/delta"
	"galley/doc"
	"galley/edit"
	"galley/rope"
	"galley/rule"
)

const least, greatest = math.MinInt, math.MaxInt

var (
	rulers    = []api.Ruler{api.Bytes, api.Runes, api.Units}
	modes     = []api.Mode{api.Down, api.Up, api.Exact}
	gravities = []api.Gravity{api.Left, api.Right}

	noRulers    = []api.Ruler{least, -1, 0, 4, 1<<32 + 1, greatest}
	noModes     = []api.Mode{least, -1, 0, 4, 1<<32 + 1, greatest}
	noGravities = []api.Gravity{least, -1, 0, 3, 1<<32 + 1, greatest}
)

// tooLong is longer than a text may be; it is made once, for it needs much memory.
var tooLong = sync.OnceValue(func() string { return strings.Repeat("x", api.MaxText+1) })

func keep(n int) api.Op   { return api.Op{Kind: api.Keep, N: n} }
func drop(n int) api.Op   { return api.Op{Kind: api.Drop, N: n} }
func put(s string) api.Op { return api.Op{Kind: api.Put, Text: s} }

// written reads a delta as layer 13 writes it: =3 keeps three, +x puts, -2 drops two.
func written(s string) api.Delta {
	var d api.Delta
	for _, f := range strings.Fields(s) {
		var n int
		if f[0] == '+' {
			d = append(d, put(f[1:]))
		} else if fmt.Sscan(f[1:], &n); f[0] == '=' {
			d = append(d, keep(n))
		} else {
			d = append(d, drop(n))
		}
	}
	return d
}

// told is a delta in a line that isn't too long.
func told(d api.Delta) string {
	var b strings.Builder
	for i, op := range d {
		if i == 20 {
			fmt.Fprintf(&b, " .. of %d", len(d))
			break
		}
		fmt.Fprintf(&b, " {%d %d %s}", op.Kind, op.N, short(op.Text))
	}
	return b.String()
}

// shown are edits in a line that isn't too long.
func shown(edits []api.Edit) string {
	var b strings.Builder
	for i, e := range edits {
		if i == 20 {
			fmt.Fprintf(&b, " .. of %d", len(edits))
			break
		}
		fmt.Fprintf(&b, " {%d %d %d %s}", e.Ruler, e.Lo, e.Hi, short(e.Text))
	}
	return b.String()
}

// short is a text in a line that isn't too long.
func short(s string) string {
	if len(s) > 40 {
		return fmt.Sprintf("%q.. of %d", s[:40], len(s))
	}
	return fmt.Sprintf("%q", s)
}

// by is an edit.
func by(u api.Ruler, lo, hi int, text string) api.Edit {
	return api.Edit{Ruler: u, Lo: lo, Hi: hi, Text: text}
}

// snap is a text with its marks and ranges, which stand in the order in which they were set. Its lists are never changed.
type snap struct {
	text   string
	marks  []api.Mark
	ranges []api.Range
}

// done is a step.
type done struct {
	delta         api.Delta
	ahead, behind snap
}

// model is a document that keeps all of it plainly: a text is a string, a step is two whole snaps.
type model struct {
	snap
	version, room int
	back, again   []done // the nearest one last
	open          bool
	group         *done // what was done in the open group; nil: nothing
}

// behind is what a delta makes of a snap, by F4.
func (s snap) behind(x api.Delta) snap {
	text, err := delta.Apply([]byte(s.text), x)
	changes, _ := delta.Changes(x)
	if err != api.OK {
		panic(err)
	}
	next := snap{text: string(text)}
	for _, m := range s.marks {
		m.Place = moved(changes, m.Place, m.Gravity)
		next.marks = append(next.marks, m)
	}
	for _, r := range s.ranges {
		r.Lo, r.Hi = moved(changes, r.Lo, r.Start), moved(changes, r.Hi, r.End)
		if r.Lo < r.Hi {
			next.ranges = append(next.ranges, r)
		}
	}
	return next
}

func moved(changes []api.Change, p int, g api.Gravity) int {
	grown := 0
	for _, c := range changes {
		switch {
		case p < c.Lo:
			return p + grown
		case p <= c.Hi && g == api.Left:
			return c.Lo + grown
		case p <= c.Hi:
			return c.Lo + grown + len(c.Text)
		}
		grown += len(c.Text) - (c.Hi - c.Lo)
	}
	return p + grown
}

func (m *model) edit(edits []api.Edit, mode api.Mode) (api.Delta, int, api.Errno) {
	r, _ := rope.New([]byte(m.text))
	changes, at, err := edit.Batch(r, edits, mode)
	if err != api.OK {
		return nil, at, err
	}
	x, err := delta.Of(len(m.text), changes)
	if err != api.OK {
		return nil, 0, err
	}
	if len(edits) > 0 {
		m.do(x)
	}
	return x, 0, api.OK
}

func (m *model) apply(x api.Delta) api.Errno {
	from, _, err := delta.Lens(x)
	switch {
	case err != api.OK:
		return api.ErrDelta
	case from != len(m.text):
		return api.ErrFit
	case len(x) == 0 || len(x) == 1 && x[0].Kind == api.Keep:
		return api.OK
	}
	m.do(x)
	return api.OK
}

func (m *model) do(x api.Delta) {
	s := done{slices.Clone(x), m.snap, m.snap.behind(x)}
	m.snap = s.behind
	m.version++
	m.again = nil
	if !m.open {
		m.keep(s)
		return
	}
	if m.group != nil {
		s.delta, _ = delta.Compose(m.group.delta, x)
		s.ahead = m.group.ahead
	}
	m.group = &s
}

func (m *model) keep(s done) {
	m.back = append(m.back, s)
	m.back = m.back[max(0, len(m.back)-m.room):]
}

func (m *model) undo() (api.Delta, api.Errno) {
	switch {
	case m.open:
		return nil, api.ErrOpen
	case len(m.back) == 0:
		return nil, api.ErrPast
	}
	s := m.back[len(m.back)-1]
	m.back = m.back[:len(m.back)-1]
	m.again = append(m.again, s)
	m.snap = s.ahead
	m.version++
	return delta.Invert([]byte(s.ahead.text), s.delta)
}

func (m *model) redo() (api.Delta, api.Errno) {
	switch {
	case m.open:
		return nil, api.ErrOpen
	case len(m.again) == 0:
		return nil, api.ErrPast
	}
	s := m.again[len(m.again)-1]
	m.again = m.again[:len(m.again)-1]
	m.back = append(m.back, s)
	m.snap = s.behind
	m.version++
	return s.delta, api.OK
}

func (m *model) begin() api.Errno {
	if m.open {
		return api.ErrOpen
	}
	m.open = true
	return api.OK
}

func (m *model) end() api.Errno {
	if !m.open {
		return api.ErrOpen
	}
	if m.group != nil {
		m.keep(*m.group)
	}
	m.open, m.group = false, nil
	return api.OK
}

// named is the place in a list of what has a name; -1: nothing has.
func named[T any](list []T, name string, of func(T) string) int {
	return slices.IndexFunc(list, func(x T) bool { return of(x) == name })
}

// with is a list with one thing more, in the place of that which had its name.
func with[T any](list []T, x T, of func(T) string) []T {
	return append(slices.DeleteFunc(slices.Clone(list), func(y T) bool { return of(x) == of(y) }), x)
}

func markName(x api.Mark) string   { return x.Name }
func rangeName(x api.Range) string { return x.Name }

func (m *model) mark(name string, u api.Ruler, place int, g api.Gravity, mode api.Mode) api.Errno {
	at, err := rule.To([]byte(m.text), u, place, api.Bytes, mode)
	switch {
	case err != api.OK:
		return err
	case name == "" || len(name) > 64:
		return api.ErrName
	case !slices.Contains(gravities, g):
		return api.ErrRange
	case named(m.marks, name, markName) < 0 && len(m.marks) == 1024:
		return api.ErrMany
	}
	m.marks = with(m.marks, api.Mark{Name: name, Place: at, Gravity: g}, markName)
	return api.OK
}

func (m *model) unmark(name string) api.Errno {
	i := named(m.marks, name, markName)
	if i < 0 {
		return api.ErrMark
	}
	m.marks = slices.Delete(slices.Clone(m.marks), i, i+1)
	return api.OK
}

func (m *model) marked(name string, u api.Ruler) (int, api.Errno) {
	if !slices.Contains(rulers, u) {
		return 0, api.ErrRuler
	}
	i := named(m.marks, name, markName)
	if i < 0 {
		return 0, api.ErrMark
	}
	return rule.To([]byte(m.text), api.Bytes, m.marks[i].Place, u, api.Down)
}

func (m *model) ranged(name string, u api.Ruler, lo, hi int, start, end api.Gravity, mode api.Mode) api.Errno {
	from, err := rule.To([]byte(m.text), u, lo, api.Bytes, mode)
	if err != api.OK {
		return err
	}
	to, err := rule.To([]byte(m.text), u, hi, api.Bytes, mode)
	switch {
	case err != api.OK:
		return err
	case name == "" || len(name) > 64:
		return api.ErrName
	case from >= to || !slices.Contains(gravities, start) || !slices.Contains(gravities, end):
		return api.ErrRange
	case named(m.ranges, name, rangeName) < 0 && len(m.ranges) == 1024:
		return api.ErrMany
	}
	m.ranges = with(m.ranges, api.Range{Name: name, Lo: from, Hi: to, Start: start, End: end}, rangeName)
	return api.OK
}

func (m *model) unrange(name string) api.Errno {
	i := named(m.ranges, name, rangeName)
	if i < 0 {
		return api.ErrMark
	}
	m.ranges = slices.Delete(slices.Clone(m.ranges), i, i+1)
	return api.OK
}

func (m *model) listedMarks() []api.Mark {
	return slices.SortedFunc(slices.Values(m.marks), func(a, b api.Mark) int {
		return cmp.Or(cmp.Compare(a.Place, b.Place), cmp.Compare(a.Name, b.Name))
	})
}

func (m *model) listedRanges() []api.Range {
	return slices.SortedFunc(slices.Values(m.ranges), func(a, b api.Range) int {
		return cmp.Or(cmp.Compare(a.Lo, b.Lo), cmp.Compare(a.Hi, b.Hi), cmp.Compare(a.Name, b.Name))
	})
}

// pair is a document and the model of it; each call is done to both, and the answers are held against each other.
type pair struct {
	d     *doc.Doc
	want  *model
	led   []byte // where the deltas that were answered lead to
	calls []string
}

// made is a new document with a model.
func made(t testing.TB, text string, room int) *pair {
	t.Helper()
	d, err := doc.New([]byte(text), room)
	if d == nil || err != api.OK {
		t.Fatalf("New(%s, %d): nil: %v, %d", short(text), room, d == nil, err)
	}
	x := &pair{d: d, want: &model{snap: snap{text: text}, room: room}, led: []byte(text)}
	x.tell("New(%s, %d)", short(text), room)
	return x
}

func (x *pair) tell(call string, things ...any) {
	x.calls = append(x.calls, fmt.Sprintf(call, things...))
	if len(x.calls) > 40 {
		x.calls = x.calls[1:]
	}
}

// same holds what was answered beside a delta.
func (x *pair) same(t testing.TB, got, want api.Errno) api.Errno {
	t.Helper()
	if got != want {
		t.Fatalf("%v: %d, want %d", x.calls, got, want)
	}
	return got
}

// leads holds a delta that was answered, and goes along it.
func (x *pair) leads(t testing.TB, got, want api.Delta, err, wantErr api.Errno) api.Errno {
	t.Helper()
	if !slices.Equal(got, want) || err != wantErr {
		t.Fatalf("%v:%s, %d, want%s, %d", x.calls, told(got), err, told(want), wantErr)
	}
	if err == api.OK {
		if x.led, err = delta.Apply(x.led, got); err != api.OK {
			t.Fatalf("%v:%s doesn't lead along: %d", x.calls, told(got), err)
		}
	}
	return wantErr
}

func (x *pair) edit(t testing.TB, mode api.Mode, edits ...api.Edit) api.Errno {
	t.Helper()
	x.tell("Edit(%s, %d)", shown(edits), mode)
	got, at, err := x.d.Edit(edits, mode)
	want, wantAt, wantErr := x.want.edit(edits, mode)
	if at != wantAt {
		t.Fatalf("%v: at %d, %d, want at %d, %d", x.calls, at, err, wantAt, wantErr)
	}
	return x.leads(t, got, want, err, wantErr)
}

func (x *pair) apply(t testing.TB, d api.Delta) api.Errno {
	t.Helper()
	x.tell("Apply(%s)", told(d))
	err := x.same(t, x.d.Apply(d), x.want.apply(d))
	if err == api.OK {
		x.led, _ = delta.Apply(x.led, d)
	}
	return err
}

func (x *pair) undo(t testing.TB) api.Errno {
	t.Helper()
	x.tell("Undo")
	got, err := x.d.Undo()
	want, wantErr := x.want.undo()
	return x.leads(t, got, want, err, wantErr)
}

func (x *pair) redo(t testing.TB) api.Errno {
	t.Helper()
	x.tell("Redo")
	got, err := x.d.Redo()
	want, wantErr := x.want.redo()
	return x.leads(t, got, want, err, wantErr)
}

func (x *pair) begin(t testing.TB) api.Errno {
	t.Helper()
	x.tell("Begin")
	return x.same(t, x.d.Begin(), x.want.begin())
}

func (x *pair) end(t testing.TB) api.Errno {
	t.Helper()
	x.tell("End")
	return x.same(t, x.d.End(), x.want.end())
}

func (x *pair) mark(t testing.TB, name string, u api.Ruler, place int, g api.Gravity, mode api.Mode) api.Errno {
	t.Helper()
	x.tell("Mark(%q, %d, %d, %d, %d)", name, u, place, g, mode)
	return x.same(t, x.d.Mark(name, u, place, g, mode), x.want.mark(name, u, place, g, mode))
}

func (x *pair) unmark(t testing.TB, name string) api.Errno {
	t.Helper()
	x.tell("Unmark(%q)", name)
	return x.same(t, x.d.Unmark(name), x.want.unmark(name))
}

func (x *pair) marked(t testing.TB, name string, u api.Ruler) api.Errno {
	t.Helper()
	want, wantErr := x.want.marked(name, u)
	if got, err := x.d.Marked(name, u); got != want || err != wantErr {
		t.Fatalf("%v, Marked(%q, %d): %d, %d, want %d, %d", x.calls, name, u, got, err, want, wantErr)
	}
	return wantErr
}

func (x *pair) ranged(t testing.TB, name string, u api.Ruler, lo, hi int, start, end api.Gravity, mode api.Mode) api.Errno {
	t.Helper()
	x.tell("Range(%q, %d, %d, %d, %d, %d, %d)", name, u, lo, hi, start, end, mode)
	return x.same(t, x.d.Range(name, u, lo, hi, start, end, mode), x.want.ranged(name, u, lo, hi, start, end, mode))
}

func (x *pair) unrange(t testing.TB, name string) api.Errno {
	t.Helper()
	x.tell("Unrange(%q)", name)
	return x.same(t, x.d.Unrange(name), x.want.unrange(name))
}

// textOf are all bytes of a document.
func textOf(t testing.TB, d *doc.Doc) string {
	t.Helper()
	b, err := d.Text().Bytes(0, d.Text().Len())
	if err != api.OK {
		t.Fatalf("Bytes: %d", err)
	}
	return string(b)
}

// hold holds all that can be seen of a document without changing it against the model.
func (x *pair) hold(t testing.TB) {
	t.Helper()
	if got := textOf(t, x.d); got != x.want.text || got != string(x.led) {
		t.Fatalf("%v, Text: %s, want %s; the deltas lead to %s", x.calls, short(got), short(x.want.text), short(string(x.led)))
	}
	if got := x.d.Version(); got != x.want.version {
		t.Fatalf("%v, Version: %d, want %d", x.calls, got, x.want.version)
	}
	if back, again := x.d.Steps(); back != len(x.want.back) || again != len(x.want.again) {
		t.Fatalf("%v, Steps: %d, %d, want %d, %d", x.calls, back, again, len(x.want.back), len(x.want.again))
	}
	if got := x.d.Marks(); !slices.Equal(got, x.want.listedMarks()) {
		t.Fatalf("%v, Marks: %v, want %v", x.calls, got, x.want.listedMarks())
	}
	if got := x.d.Ranges(); !slices.Equal(got, x.want.listedRanges()) {
		t.Fatalf("%v, Ranges: %v, want %v", x.calls, got, x.want.listedRanges())
	}
	for i, m := range x.want.marks {
		x.marked(t, m.Name, rulers[i%3])
	}
}

// unwind goes to both ends of what was done and to where it was, once a group that is open has been ended: so all that is remembered is seen.
func (x *pair) unwind(t testing.TB) {
	t.Helper()
	if x.want.open {
		x.end(t)
	}
	x.hold(t)
	at := len(x.want.back)
	for x.redo(t) == api.OK {
		x.hold(t)
	}
	for x.undo(t) == api.OK {
		x.hold(t)
	}
	for range at {
		x.redo(t)
		x.hold(t)
	}
}
