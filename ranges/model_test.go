package ranges_test

import (
	"fmt"
	"math"
	"math/rand"
	"slices"
	"strings"
	"sync"
	"testing"

	"galley/api"
	"galley/delta"
	"galley/ranges"
)

const least, greatest, most = math.MinInt, math.MaxInt, api.MaxText

// pairs are the four ways in which a range can hold on: Start, End.
var pairs = [][2]api.Gravity{{api.Left, api.Left}, {api.Left, api.Right}, {api.Right, api.Left}, {api.Right, api.Right}}

// noGravities are numbers that are no gravity.
var noGravities = []api.Gravity{least, -2, -1, 0, 3, 4, greatest}

// tooLong is a text that no delta may put; it is made once, for it needs much memory.
var tooLong = sync.OnceValue(func() string { return strings.Repeat("x", most+1) })

// of is a range with the ways of one of the pairs.
func of(name string, lo, hi, pair int) api.Range {
	return api.Range{Name: name, Lo: lo, Hi: hi, Start: pairs[pair][0], End: pairs[pair][1]}
}

// takes is a range that takes in what is put at its ends; holds is one that holds on to the bytes that it has.
func takes(name string, lo, hi int) api.Range { return of(name, lo, hi, 1) }
func holds(name string, lo, hi int) api.Range { return of(name, lo, hi, 2) }

func keep(n int) api.Op   { return api.Op{Kind: api.Keep, N: n} }
func drop(n int) api.Op   { return api.Op{Kind: api.Drop, N: n} }
func put(s string) api.Op { return api.Op{Kind: api.Put, Text: s} }

// written reads a delta as layer 13 writes it: =3 keeps three, +x puts, -2 drops two.
func written(s string) api.Delta {
	var d api.Delta
	for _, f := range strings.Fields(s) {
		var n int
		if f[0] == '+' {
			d = append(d, put(f[1:]))
		} else if fmt.Sscan(f[1:], &n); f[0] == '=' {
			d = append(d, keep(n))
		} else {
			d = append(d, drop(n))
		}
	}
	return d
}

// told is a delta in a line that isn't too long.
func told(d api.Delta) string {
	var b strings.Builder
	for i, op := range d {
		if i == 20 {
			fmt.Fprintf(&b, " .. of %d", len(d))
			break
		}
		text := op.Text
		if len(text) > 20 {
			text = fmt.Sprintf("%s.. of %d", text[:20], len(text))
		}
		fmt.Fprintf(&b, " {%d %d %q}", op.Kind, op.N, text)
	}
	return b.String()
}

// shown are ranges in a line that isn't too long, their names such that all bytes can be told apart.
func shown(list ...api.Range) string {
	var b strings.Builder
	for i, x := range list {
		if i == 40 {
			fmt.Fprintf(&b, " .. of %d", len(list))
			break
		}
		fmt.Fprintf(&b, " {%q %d %d %d %d}", x.Name, x.Lo, x.Hi, x.Start, x.End)
	}
	return b.String()
}

// model is ranges as a plain list, in the order in which they were set. Its calls answer others, as those of Ranges.
type model struct {
	n    int
	list []api.Range
}

func (m model) index(name string) int {
	return slices.IndexFunc(m.list, func(x api.Range) bool { return x.Name == name })
}

func (m model) get(name string) (api.Range, bool) {
	if i := m.index(name); i >= 0 {
		return m.list[i], true
	}
	return api.Range{}, false
}

func (m model) drop(name string) (model, api.Errno) {
	i := m.index(name)
	if i < 0 {
		return model{}, api.ErrMark
	}
	return model{m.n, slices.Delete(slices.Clone(m.list), i, i+1)}, api.OK
}

func (m model) set(x api.Range) (model, api.Errno) {
	_, there := m.get(x.Name)
	switch {
	case len(x.Name) == 0 || len(x.Name) > 64:
		return model{}, api.ErrName
	case !(0 <= x.Lo && x.Lo < x.Hi && x.Hi <= m.n) || !slices.Contains(pairs, [2]api.Gravity{x.Start, x.End}):
		return model{}, api.ErrRange
	case !there && len(m.list) == 1024:
		return model{}, api.ErrMany
	case there:
		m, _ = m.drop(x.Name)
	}
	return model{m.n, append(slices.Clone(m.list), x)}, api.OK
}

// sorted puts each range ahead of the first one that is to stand behind it.
func (m model) sorted() []api.Range {
	var list []api.Range
	for _, x := range m.list {
		i := 0
		for i < len(list) && ahead(list[i], x) {
			i++
		}
		list = slices.Insert(list, i, x)
	}
	return list
}

// over is what of a list in its order has a byte between two places (the later beginning is ahead of the earlier end), or holds the place.
func over(list []api.Range, lo, hi int) []api.Range {
	var found []api.Range
	for _, x := range list {
		if lo < hi && max(lo, x.Lo) < min(hi, x.Hi) || lo == hi && max(lo, x.Lo) <= min(hi, x.Hi) {
			found = append(found, x)
		}
	}
	return found
}

// ahead: is a to be listed ahead of b? By the chapter's words.
func ahead(a, b api.Range) bool {
	if a.Lo != b.Lo {
		return a.Lo < b.Lo
	}
	if a.Hi != b.Hi {
		return a.Hi < b.Hi
	}
	return nameAhead(a.Name, b.Name)
}

// nameAhead goes byte by byte; a beginning stands ahead of what goes on.
func nameAhead(a, b string) bool {
	for i := range min(len(a), len(b)) {
		if a[i] != b[i] {
			return a[i] < b[i]
		}
	}
	return len(a) < len(b)
}

func (m model) behind(d api.Delta) (model, []string, api.Errno) {
	if !delta.Valid(d) {
		return model{}, nil, api.ErrDelta
	}
	f := fateOf(d)
	if len(f.drops) != m.n {
		return model{}, nil, api.ErrFit
	}
	all := model{n: f.newLen()}
	var gone []string
	for _, x := range m.list {
		x.Lo, x.Hi = f.place(x.Lo, x.Start), f.place(x.Hi, x.End)
		if x.Lo < x.Hi {
			all.list = append(all.list, x)
			continue
		}
		i := 0
		for i < len(gone) && nameAhead(gone[i], x.Name) {
			i++
		}
		gone = slices.Insert(gone, i, x.Name)
	}
	return all, gone, api.OK
}

// cover looks at each piece between two neighbouring ends of ranges: it is in a range as a whole, or not at all.
func (m model) cover() []api.Hit {
	var ends []int
	for _, x := range m.list {
		ends = append(ends, x.Lo, x.Hi)
	}
	slices.Sort(ends)
	ends = slices.Compact(ends)
	var pieces []api.Hit
	for i := 1; i < len(ends); i++ {
		lo, hi := ends[i-1], ends[i]
		if !slices.ContainsFunc(m.list, func(x api.Range) bool { return x.Lo <= lo && hi <= x.Hi }) {
			continue
		}
		if n := len(pieces); n > 0 && pieces[n-1].Hi == lo {
			pieces[n-1].Hi = hi
		} else {
			pieces = append(pieces, api.Hit{Lo: lo, Hi: hi})
		}
	}
	return pieces
}

// hold holds ranges against the model, by every call that tells of them.
func hold(t *testing.T, r *ranges.Ranges, want model) {
	t.Helper()
	if r == nil || r.Len() != want.n {
		t.Fatalf("Len: %d, want %d (nil: %v)", r.Len(), want.n, r == nil)
	}
	wantList := want.sorted()
	if got := r.List(); !slices.Equal(got, wantList) {
		t.Fatalf("List:%s, want%s", shown(got...), shown(wantList...))
	}
	half := want.n / 2
	for _, c := range [][2]int{{least, greatest}, {0, half}, {half, half}, {half, half + 1}, {half + 1, want.n}, {want.n, 0}} {
		if got := r.Over(c[0], c[1]); !slices.Equal(got, over(wantList, c[0], c[1])) {
			t.Fatalf("Over(%d, %d):%s, want%s", c[0], c[1], shown(got...), shown(over(wantList, c[0], c[1])...))
		}
	}
	for _, x := range want.list {
		if got, there := r.Get(x.Name); got != x || !there {
			t.Fatalf("Get(%q):%s, %v, want%s", x.Name, shown(got), there, shown(x))
		}
	}
	if got := r.Cover(); !slices.Equal(got, want.cover()) {
		t.Fatalf("Cover: %v, want %v", got, want.cover())
	}
}

// refuses holds that a call answered an error, and nothing beside it.
func refuses(t *testing.T, call string, got *ranges.Ranges, err, want api.Errno) {
	t.Helper()
	if got != nil || err != want {
		t.Fatalf("%s: nil: %v, %d, want nil, %d", call, got == nil, err, want)
	}
}

// refusesBehind is refuses of Behind.
func refusesBehind(t *testing.T, r *ranges.Ranges, d api.Delta, want api.Errno) {
	t.Helper()
	got, gone, err := r.Behind(d)
	if got != nil || len(gone) != 0 || err != want {
		t.Fatalf("Behind(%s) of %d bytes: nil: %v, %q, %d, want nil, none, %d", told(d), r.Len(), got == nil, gone, err, want)
	}
}

// made are ranges of a text of n bytes, set one by one, and the model of them.
func made(t *testing.T, n int, list ...api.Range) (*ranges.Ranges, model) {
	t.Helper()
	r, err := ranges.New(n)
	if r == nil || err != api.OK {
		t.Fatalf("New(%d): %d", n, err)
	}
	want := model{n: n}
	for _, x := range list {
		r = set(t, r, x)
		want, _ = want.set(x)
	}
	return r, want
}

func set(t *testing.T, r *ranges.Ranges, x api.Range) *ranges.Ranges {
	t.Helper()
	others, err := r.Set(x)
	if others == nil || err != api.OK {
		t.Fatalf("Set(%s): nil: %v, %d", shown(x), others == nil, err)
	}
	return others
}

// everywhere are ranges of all four pairs of gravities at every two places of a text of n bytes.
func everywhere(n int) []api.Range {
	var list []api.Range
	for hi := 1; hi <= n; hi++ {
		for lo := range hi {
			for pair := range pairs {
				list = append(list, of(fmt.Sprint(pair, " ", lo, " ", hi), lo, hi, pair))
			}
		}
	}
	return list
}

// many are MaxMarks ranges of a text of n bytes, of all pairs of gravities, several between two places if n is small.
func many(n int) []api.Range {
	var list []api.Range
	for i := range 1024 {
		lo := i * 7 % n
		list = append(list, of(fmt.Sprint("r", i), lo, lo+1+i*5%(n-lo), i%4))
	}
	return list
}

// fate is what a canonical delta does, place by place and byte by byte.
type fate struct {
	puts  []string // at each place of the old text
	drops []bool   // each byte of it
}

func fateOf(d api.Delta) fate {
	f := fate{puts: []string{""}}
	for _, op := range d {
		if op.Kind == api.Put {
			f.puts[len(f.puts)-1] += op.Text
		}
		for range op.N {
			f.puts = append(f.puts, "")
			f.drops = append(f.drops, op.Kind == api.Drop)
		}
	}
	return f
}

// delta is the canonical delta that does this; of what isn't put at a change's Lo there is none.
func (f fate) delta() api.Delta {
	var d api.Delta
	for p, text := range f.puts {
		if text != "" {
			d = append(d, put(text))
		}
		if p == len(f.drops) {
			break
		}
		kind := api.Keep
		if f.drops[p] {
			kind = api.Drop
		}
		if n := len(d); n > 0 && d[n-1].Kind == kind {
			d[n-1].N++
		} else {
			d = append(d, api.Op{Kind: kind, N: 1})
		}
	}
	return d
}

// newLen is how long what it makes is.
func (f fate) newLen() int {
	n := len(strings.Join(f.puts, ""))
	for _, dropped := range f.drops {
		if !dropped {
			n++
		}
	}
	return n
}

// changeLo is where the change that has a place begins: ahead of all dropped bytes that stand directly ahead of the place. (Without a change it is the place.)
func (f fate) changeLo(p int) int {
	for p > 0 && f.drops[p-1] {
		p--
	}
	return p
}

// place is where a place is behind it, by F4.
func (f fate) place(p int, g api.Gravity) int {
	lo := f.changeLo(p)
	there := fate{puts: f.puts[:lo], drops: f.drops[:lo]}.newLen()
	if g == api.Right {
		// A change's text is put at its Lo; where no change is, nothing is put.
		there += len(f.puts[lo])
	}
	return there
}

// all are the canonical deltas of a text of n bytes whose texts are as long as one of sizes (0: nothing is put). What is put at place 0 is A, at place 1 B, and so on.
func all(n int, sizes ...int) []api.Delta {
	var ds []api.Delta
	f := fate{puts: make([]string, n+1), drops: make([]bool, n)}
	var fill func(p int)
	fill = func(p int) {
		for _, size := range sizes {
			if size > 0 && p > 0 && f.drops[p-1] {
				continue
			}
			f.puts[p] = strings.Repeat(string(rune('A'+p)), size)
			if p == n {
				ds = append(ds, f.delta())
				continue
			}
			for _, f.drops[p] = range []bool{false, true} {
				fill(p + 1)
			}
		}
	}
	fill(0)
	return ds
}

// short calls f with every short canonical delta, and with the length of its text; those of one length one behind the other.
func short(f func(n int, d api.Delta)) {
	for n := range 5 {
		for _, d := range all(n, 0, 1, 2) {
			f(n, d)
		}
	}
	for _, d := range all(6, 0, 1) {
		f(6, d)
	}
}

// wrong are deltas that aren't canonical. Many of them would be of three bytes.
func wrong() []api.Delta {
	return []api.Delta{
		written("=0"), written("=2 =1"), written("=1 -1 +x =1"), written("-1 -2"), written("+"), written("+x +y"), written("=-3"), written("-0 =3"), written("=3 +"), written("=3 +x +"),
		{{Kind: 0, N: 3}}, {{Kind: 4}}, {{Kind: -1, N: 3}}, {{Kind: least}}, {{Kind: greatest, N: 3}},
		{{Kind: api.Keep, N: 3, Text: "x"}}, {{Kind: api.Drop, N: 3, Text: "x"}}, {keep(3), {Kind: api.Put, N: 3, Text: "xyz"}}, {keep(3), {Kind: 0}},
		{keep(most + 1)}, {drop(most + 1)}, {keep(greatest), drop(greatest)}, {put(tooLong())}, {keep(most), put("x")}, {keep(least)}, {drop(least)},
	}
}

// byChance is a canonical delta of n bytes, with many operations if n is great.
func byChance(rng *rand.Rand, n int) api.Delta {
	var d api.Delta
	for at := 0; at < n; {
		size := min(rng.Intn(6), n-at)
		switch rng.Intn(3) {
		case 0:
			d = append(d, keep(size))
			at += size
		case 1:
			d = append(d, drop(size))
			at += size
		case 2:
			d = append(d, put(strings.Repeat("x", size)))
		}
	}
	d, err := delta.Canon(append(d, put(strings.Repeat("y", rng.Intn(3)))))
	if err != api.OK {
		panic(err)
	}
	return d
}
