package marks_test

import (
	"fmt"
	"math"
	"math/rand"
	"slices"
	"strings"
	"sync"
	"testing"

	"galley/api"
	"galley/delta"
	"galley/marks"
)

const least, greatest, most = math.MinInt, math.MaxInt, api.MaxText

var gravities = []api.Gravity{api.Left, api.Right}

// noGravities are numbers that are no gravity.
var noGravities = []api.Gravity{least, -2, -1, 0, 3, 4, greatest}

// tooLong is a text that no delta may put; it is made once, for it needs much memory.
var tooLong = sync.OnceValue(func() string { return strings.Repeat("x", most+1) })

func mark(name string, place int, g api.Gravity) api.Mark {
	return api.Mark{Name: name, Place: place, Gravity: g}
}

func keep(n int) api.Op   { return api.Op{Kind: api.Keep, N: n} }
func drop(n int) api.Op   { return api.Op{Kind: api.Drop, N: n} }
func put(s string) api.Op { return api.Op{Kind: api.Put, Text: s} }

// written reads a delta as layer 13 writes it: =3 keeps three, +x puts, -2 drops two.
func written(s string) api.Delta {
	var d api.Delta
	for _, f := range strings.Fields(s) {
		var n int
		if f[0] == '+' {
			d = append(d, put(f[1:]))
		} else if fmt.Sscan(f[1:], &n); f[0] == '=' {
			d = append(d, keep(n))
		} else {
			d = append(d, drop(n))
		}
	}
	return d
}

// told is a delta in a line that isn't too long.
func told(d api.Delta) string {
	var b strings.Builder
	for i, op := range d {
		if i == 20 {
			fmt.Fprintf(&b, " .. of %d", len(d))
			break
		}
		text := op.Text
		if len(text) > 20 {
			text = fmt.Sprintf("%s.. of %d", text[:20], len(text))
		}
		fmt.Fprintf(&b, " {%d %d %q}", op.Kind, op.N, text)
	}
	return b.String()
}

// shown are marks in a line that isn't too long, their names such that all bytes can be told apart.
func shown(list ...api.Mark) string {
	var b strings.Builder
	for i, x := range list {
		if i == 40 {
			fmt.Fprintf(&b, " .. of %d", len(list))
			break
		}
		fmt.Fprintf(&b, " {%q %d %d}", x.Name, x.Place, x.Gravity)
	}
	return b.String()
}

// model is marks as a plain list, in the order in which they were set. Its calls answer others, as those of Marks.
type model struct {
	n    int
	list []api.Mark
}

func (m model) index(name string) int {
	return slices.IndexFunc(m.list, func(x api.Mark) bool { return x.Name == name })
}

func (m model) get(name string) (api.Mark, bool) {
	if i := m.index(name); i >= 0 {
		return m.list[i], true
	}
	return api.Mark{}, false
}

func (m model) drop(name string) (model, api.Errno) {
	i := m.index(name)
	if i < 0 {
		return model{}, api.ErrMark
	}
	return model{m.n, slices.Delete(slices.Clone(m.list), i, i+1)}, api.OK
}

func (m model) set(x api.Mark) (model, api.Errno) {
	_, there := m.get(x.Name)
	switch {
	case len(x.Name) == 0 || len(x.Name) > 64:
		return model{}, api.ErrName
	case x.Place < 0 || x.Place > m.n || !slices.Contains(gravities, x.Gravity):
		return model{}, api.ErrRange
	case !there && len(m.list) == 1024:
		return model{}, api.ErrMany
	case there:
		m, _ = m.drop(x.Name)
	}
	return model{m.n, append(slices.Clone(m.list), x)}, api.OK
}

// between puts each mark ahead of the first one that is to stand behind it.
func (m model) between(lo, hi int) []api.Mark {
	var list []api.Mark
	for _, x := range m.list {
		if x.Place < lo || x.Place > hi {
			continue
		}
		i := 0
		for i < len(list) && ahead(list[i], x) {
			i++
		}
		list = slices.Insert(list, i, x)
	}
	return list
}

// ahead: is a to be listed ahead of b? By the chapter's words, byte by byte.
func ahead(a, b api.Mark) bool {
	if a.Place != b.Place {
		return a.Place < b.Place
	}
	for i := range min(len(a.Name), len(b.Name)) {
		if a.Name[i] != b.Name[i] {
			return a.Name[i] < b.Name[i]
		}
	}
	return len(a.Name) < len(b.Name)
}

func (m model) behind(d api.Delta) (model, api.Errno) {
	if !delta.Valid(d) {
		return model{}, api.ErrDelta
	}
	f := fateOf(d)
	if len(f.drops) != m.n {
		return model{}, api.ErrFit
	}
	all := model{n: f.newLen()}
	for _, x := range m.list {
		x.Place = f.place(x.Place, x.Gravity)
		all.list = append(all.list, x)
	}
	return all, api.OK
}

// hold holds marks against the model, by every call that tells of them.
func hold(t *testing.T, m *marks.Marks, want model) {
	t.Helper()
	if m == nil || m.Len() != want.n {
		t.Fatalf("Len: %d, want %d (nil: %v)", m.Len(), want.n, m == nil)
	}
	wantList := want.between(0, want.n)
	if got := m.List(); !slices.Equal(got, wantList) {
		t.Fatalf("List:%s, want%s", shown(got...), shown(wantList...))
	}
	for _, c := range [][2]int{{least, greatest}, {0, want.n / 2}, {want.n / 2, want.n / 2}, {want.n/2 + 1, want.n}, {want.n, 0}} {
		if got := m.Between(c[0], c[1]); !slices.Equal(got, want.between(c[0], c[1])) {
			t.Fatalf("Between(%d, %d):%s, want%s", c[0], c[1], shown(got...), shown(want.between(c[0], c[1])...))
		}
	}
	for _, x := range want.list {
		if got, there := m.Get(x.Name); got != x || !there {
			t.Fatalf("Get(%q):%s, %v, want%s", x.Name, shown(got), there, shown(x))
		}
	}
}

// refuses holds that a call answered an error, and nothing beside it.
func refuses(t *testing.T, call string, got *marks.Marks, err, want api.Errno) {
	t.Helper()
	if got != nil || err != want {
		t.Fatalf("%s: nil: %v, %d, want nil, %d", call, got == nil, err, want)
	}
}

// made are marks of a text of n bytes, set one by one, and the model of them.
func made(t *testing.T, n int, list ...api.Mark) (*marks.Marks, model) {
	t.Helper()
	m, err := marks.New(n)
	if m == nil || err != api.OK {
		t.Fatalf("New(%d): %d", n, err)
	}
	want := model{n: n}
	for _, x := range list {
		m = set(t, m, x)
		want, _ = want.set(x)
	}
	return m, want
}

func set(t *testing.T, m *marks.Marks, x api.Mark) *marks.Marks {
	t.Helper()
	others, err := m.Set(x)
	if others == nil || err != api.OK {
		t.Fatalf("Set(%s): nil: %v, %d", shown(x), others == nil, err)
	}
	return others
}

// everywhere are marks of both gravities at every place of a text of n bytes.
func everywhere(n int) []api.Mark {
	var list []api.Mark
	for place := range n + 1 {
		list = append(list, mark(fmt.Sprint("left ", place), place, api.Left), mark(fmt.Sprint("right ", place), place, api.Right))
	}
	return list
}

// many are MaxMarks marks of a text of n bytes, of both gravities, several at one place if n is small.
func many(n int) []api.Mark {
	var list []api.Mark
	for i := range 1024 {
		list = append(list, mark(fmt.Sprint("m", i), i*7%(n+1), gravities[i%2]))
	}
	return list
}

// fate is what a canonical delta does, place by place and byte by byte.
type fate struct {
	puts  []string // at each place of the old text
	drops []bool   // each byte of it
}

func fateOf(d api.Delta) fate {
	f := fate{puts: []string{""}}
	for _, op := range d {
		if op.Kind == api.Put {
			f.puts[len(f.puts)-1] += op.Text
		}
		for range op.N {
			f.puts = append(f.puts, "")
			f.drops = append(f.drops, op.Kind == api.Drop)
		}
	}
	return f
}

// delta is the canonical delta that does this; of what isn't put at a change's Lo there is none.
func (f fate) delta() api.Delta {
	var d api.Delta
	for p, text := range f.puts {
		if text != "" {
			d = append(d, put(text))
		}
		if p == len(f.drops) {
			break
		}
		kind := api.Keep
		if f.drops[p] {
			kind = api.Drop
		}
		if n := len(d); n > 0 && d[n-1].Kind == kind {
			d[n-1].N++
		} else {
			d = append(d, api.Op{Kind: kind, N: 1})
		}
	}
	return d
}

// newLen is how long what it makes is.
func (f fate) newLen() int {
	n := len(strings.Join(f.puts, ""))
	for _, dropped := range f.drops {
		if !dropped {
			n++
		}
	}
	return n
}

// place is where a place is behind it, by F4: the change that has the place begins ahead of all dropped bytes that stand directly ahead of the place.
func (f fate) place(p int, g api.Gravity) int {
	lo := p
	for lo > 0 && f.drops[lo-1] {
		lo--
	}
	there := fate{puts: f.puts[:lo], drops: f.drops[:lo]}.newLen()
	if g == api.Right {
		// A change's text is put at its Lo; where no change is, nothing is put.
		there += len(f.puts[lo])
	}
	return there
}

// all are the canonical deltas of a text of n bytes whose texts are as long as one of sizes (0: nothing is put).
func all(n int, sizes ...int) []api.Delta {
	var ds []api.Delta
	f := fate{puts: make([]string, n+1), drops: make([]bool, n)}
	var fill func(p int)
	fill = func(p int) {
		for _, size := range sizes {
			if size > 0 && p > 0 && f.drops[p-1] {
				continue
			}
			f.puts[p] = strings.Repeat("x", size)
			if p == n {
				ds = append(ds, f.delta())
				continue
			}
			for _, f.drops[p] = range []bool{false, true} {
				fill(p + 1)
			}
		}
	}
	fill(0)
	return ds
}

// short calls f with every short canonical delta, and with the length of its text.
func short(f func(n int, d api.Delta)) {
	for n := range 5 {
		for _, d := range all(n, 0, 1, 2) {
			f(n, d)
		}
	}
	for _, d := range all(7, 0, 1) {
		f(7, d)
	}
}

// wrong are deltas that aren't canonical. Many of them would be of three bytes.
func wrong() []api.Delta {
	return []api.Delta{
		written("=0"), written("=2 =1"), written("=1 -1 +x =1"), written("-1 -2"), written("+"), written("+x +y"), written("=-3"), written("-0 =3"), written("=3 +"), written("=3 +x +"),
		{{Kind: 0, N: 3}}, {{Kind: 4}}, {{Kind: -1, N: 3}}, {{Kind: least}}, {{Kind: greatest, N: 3}},
		{{Kind: api.Keep, N: 3, Text: "x"}}, {{Kind: api.Drop, N: 3, Text: "x"}}, {keep(3), {Kind: api.Put, N: 3, Text: "xyz"}}, {keep(3), {Kind: 0}},
		{keep(most + 1)}, {drop(most + 1)}, {keep(greatest), drop(greatest)}, {put(tooLong())}, {keep(most), put("x")}, {keep(least)}, {drop(least)},
	}
}

// byChance is a canonical delta of n bytes, with many operations if n is great.
func byChance(rng *rand.Rand, n int) api.Delta {
	var d api.Delta
	for at := 0; at < n; {
		size := min(rng.Intn(6), n-at)
		switch rng.Intn(3) {
		case 0:
			d = append(d, keep(size))
			at += size
		case 1:
			d = append(d, drop(size))
			at += size
		case 2:
			d = append(d, put(strings.Repeat("x", size)))
		}
	}
	d, err := delta.Canon(append(d, put(strings.Repeat("y", rng.Intn(3)))))
	if err != api.OK {
		panic(err)
	}
	return d
}
