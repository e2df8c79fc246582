package shift_test

import (
	"fmt"
	"math"
	"math/rand"
	"slices"
	"strings"
	"sync"
	"testing"

	"galley/api"
	"galley/delta"
)

const least, greatest, most = math.MinInt, math.MaxInt, api.MaxText

// tooLong is a text that no delta may put; it is made once, for it needs much memory.
var tooLong = sync.OnceValue(func() string { return strings.Repeat("x", most+1) })

func keep(n int) api.Op   { return api.Op{Kind: api.Keep, N: n} }
func drop(n int) api.Op   { return api.Op{Kind: api.Drop, N: n} }
func put(s string) api.Op { return api.Op{Kind: api.Put, Text: s} }

// written reads a delta as the chapter writes it: =3 keeps three, +x puts, -2 drops two.
func written(s string) api.Delta {
	var d api.Delta
	for _, f := range strings.Fields(s) {
		var n int
		if f[0] == '+' {
			d = append(d, put(f[1:]))
		} else if fmt.Sscan(f[1:], &n); f[0] == '=' {
			d = append(d, keep(n))
		} else {
			d = append(d, drop(n))
		}
	}
	return d
}

func writtenAll(list ...string) []api.Delta {
	var ds []api.Delta
	for _, s := range list {
		ds = append(ds, written(s))
	}
	return ds
}

// told is a delta in a line that isn't too long.
func told(d api.Delta) string {
	var b strings.Builder
	for i, op := range d {
		if i == 20 {
			fmt.Fprintf(&b, " .. of %d", len(d))
			break
		}
		text := op.Text
		if len(text) > 20 {
			text = fmt.Sprintf("%s.. of %d", text[:20], len(text))
		}
		fmt.Fprintf(&b, " {%d %d %q}", op.Kind, op.N, text)
	}
	return b.String()
}

func toldAll(ds []api.Delta) string {
	var b strings.Builder
	for _, d := range ds {
		fmt.Fprintf(&b, " [%s]", told(d))
	}
	return b.String()
}

func equalAll(a, b []api.Delta) bool {
	return slices.EqualFunc(a, b, func(a, b api.Delta) bool { return slices.Equal(a, b) })
}

// fate is what a canonical delta does, place by place and byte by byte.
type fate struct {
	puts  []string // at each place of the old text
	drops []bool   // each byte of it
}

func fateOf(d api.Delta) fate {
	f := fate{puts: []string{""}}
	for _, op := range d {
		if op.Kind == api.Put {
			f.puts[len(f.puts)-1] += op.Text
		}
		for range op.N {
			f.puts = append(f.puts, "")
			f.drops = append(f.drops, op.Kind == api.Drop)
		}
	}
	return f
}

// delta is the canonical delta that does this; of what isn't put at a change's Lo there is none.
func (f fate) delta() api.Delta {
	var d api.Delta
	for p, text := range f.puts {
		if text != "" {
			d = append(d, put(text))
		}
		if p == len(f.drops) {
			break
		}
		kind := api.Keep
		if f.drops[p] {
			kind = api.Drop
		}
		if n := len(d); n > 0 && d[n-1].Kind == kind {
			d[n-1].N++
		} else {
			d = append(d, api.Op{Kind: kind, N: 1})
		}
	}
	return d
}

// newLen is how long what it makes is.
func (f fate) newLen() int {
	n := len(strings.Join(f.puts, ""))
	for _, dropped := range f.drops {
		if !dropped {
			n++
		}
	}
	return n
}

// place is where a place is behind it, by the chapter's words: the change that has the place begins ahead of all dropped bytes that stand directly ahead of the place.
func (f fate) place(p int, g api.Gravity) int {
	lo := p
	for lo > 0 && f.drops[lo-1] {
		lo--
	}
	ahead := fate{puts: f.puts[:lo], drops: f.drops[:lo]}.newLen()
	if g == api.Right {
		// A change's text is put at its Lo; where no change is, nothing is put.
		ahead += len(f.puts[lo])
	}
	return ahead
}

// over is b over a by the chapter's words: place by place, what both put, and then the old byte.
func over(a, b api.Delta, first bool) api.Delta {
	f, g := fateOf(a), fateOf(b)
	var all api.Delta
	for p := range f.puts {
		both := api.Delta{keep(len(f.puts[p])), put(g.puts[p])}
		if first {
			slices.Reverse(both)
		}
		all = append(all, both...)
		switch {
		case p == len(f.drops) || f.drops[p]:
		case g.drops[p]:
			all = append(all, drop(1))
		default:
			all = append(all, keep(1))
		}
	}
	d, err := delta.Canon(all)
	if err != api.OK {
		panic(err)
	}
	return d
}

// keepAll is the delta that keeps all of n bytes.
func keepAll(n int) api.Delta {
	if n == 0 {
		return nil
	}
	return api.Delta{keep(n)}
}

// all are the canonical deltas of a text of n bytes whose texts are as long as one of sizes (0: nothing is put). The bytes put tell the place, and whether they come first there: they are counted from the letter on.
func all(n int, letter byte, sizes ...int) []api.Delta {
	var ds []api.Delta
	f := fate{puts: make([]string, n+1), drops: make([]bool, n)}
	var fill func(p int)
	fill = func(p int) {
		for _, size := range sizes {
			if size > 0 && p > 0 && f.drops[p-1] {
				continue
			}
			text := []byte{}
			for i := range size {
				text = append(text, letter+byte(2*p+i))
			}
			f.puts[p] = string(text)
			if p == n {
				ds = append(ds, f.delta())
				continue
			}
			for _, f.drops[p] = range []bool{false, true} {
				fill(p + 1)
			}
		}
	}
	fill(0)
	return ds
}

// wrong are deltas that aren't canonical. Many of them would be of three bytes.
func wrong() []api.Delta {
	return []api.Delta{
		written("=0"), written("=2 =1"), written("=1 -1 +x =1"), written("-1 -2"), written("+"), written("+x +y"), written("=-3"), written("-0 =3"), written("=3 +"), written("=3 +x +"),
		{{Kind: 0, N: 3}}, {{Kind: 4}}, {{Kind: -1, N: 3}}, {{Kind: least}}, {{Kind: greatest, N: 3}},
		{{Kind: api.Keep, N: 3, Text: "x"}}, {{Kind: api.Drop, N: 3, Text: "x"}}, {keep(3), {Kind: api.Put, N: 3, Text: "xyz"}}, {keep(3), {Kind: 0}},
		{keep(most + 1)}, {drop(most + 1)}, {keep(greatest), drop(greatest)}, {put(tooLong())}, {keep(most), put("x")}, {keep(least)}, {drop(least)},
	}
}

// byChance is a canonical delta of n bytes, with many operations if n is great.
func byChance(rng *rand.Rand, n int) api.Delta {
	var d api.Delta
	for at := 0; at < n; {
		size := min(rng.Intn(6), n-at)
		switch rng.Intn(3) {
		case 0:
			d = append(d, keep(size))
			at += size
		case 1:
			d = append(d, drop(size))
			at += size
		case 2:
			d = append(d, put(letters(rng, size)))
		}
	}
	d, err := delta.Canon(append(d, put(letters(rng, rng.Intn(3)))))
	if err != api.OK {
		panic(err)
	}
	return d
}

func letters(rng *rand.Rand, n int) string {
	text := make([]byte, n)
	for i := range text {
		text[i] = 'a' + byte(rng.Intn(26))
	}
	return string(text)
}

// distinct is a text of n bytes, all unlike if it is short, and unlike those that are put.
func distinct(n int) []byte {
	x := make([]byte, n)
	for i := range x {
		x[i] = 0x80 + byte(i%128)
	}
	return x
}

// run does deltas to a text, one behind the other.
func run(t *testing.T, x []byte, ds ...api.Delta) []byte {
	t.Helper()
	for _, d := range ds {
		y, err := delta.Apply(x, d)
		if err != api.OK {
			t.Fatalf("Apply(%d bytes, %s): %d", len(x), told(d), err)
		}
		x = y
	}
	return x
}

// composed are deltas one behind the other as one.
func composed(t *testing.T, d api.Delta, ds ...api.Delta) api.Delta {
	t.Helper()
	for _, b := range ds {
		c, err := delta.Compose(d, b)
		if err != api.OK {
			t.Fatalf("Compose(%s, %s): %d", told(d), told(b), err)
		}
		d = c
	}
	return d
}
