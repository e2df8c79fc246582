package delta_test

import (
	"fmt"
	"math"
	"math/big"
	"slices"
	"strings"
	"sync"

	"galley/api"
)

const least, greatest = math.MinInt, math.MaxInt

// tooLong is a text that no delta may put; it is made once, for it needs much memory.
var tooLong = sync.OnceValue(func() string { return strings.Repeat("x", api.MaxText+1) })

func keep(n int) api.Op   { return api.Op{Kind: api.Keep, N: n} }
func drop(n int) api.Op   { return api.Op{Kind: api.Drop, N: n} }
func put(s string) api.Op { return api.Op{Kind: api.Put, Text: s} }

// written reads a delta as the chapter writes it: =3 keeps three, +x puts, -2 drops two.
func written(s string) api.Delta {
	var d api.Delta
	for _, f := range strings.Fields(s) {
		var n int
		if f[0] == '+' {
			d = append(d, put(f[1:]))
		} else if fmt.Sscan(f[1:], &n); f[0] == '=' {
			d = append(d, keep(n))
		} else {
			d = append(d, drop(n))
		}
	}
	return d
}

// told is a delta in a line that isn't too long.
func told(d api.Delta) string {
	var b strings.Builder
	for i, op := range d {
		if i == 20 {
			fmt.Fprintf(&b, " .. of %d", len(d))
			break
		}
		text := op.Text
		if len(text) > 20 {
			text = fmt.Sprintf("%s.. of %d", text[:20], len(text))
		}
		fmt.Fprintf(&b, " {%d %d %q}", op.Kind, op.N, text)
	}
	return b.String()
}

// rows calls f with every list of n out of some, in every order.
func rows[T any](n int, some []T, f func(list []T)) {
	list := make([]T, n)
	var fill func(i int)
	fill = func(i int) {
		if i == n {
			f(list)
			return
		}
		for _, x := range some {
			list[i] = x
			fill(i + 1)
		}
	}
	fill(0)
}

// cell is a byte of a text on its way: where it stood in the old text; -1, if it was written.
type cell struct {
	was int
	b   byte
}

func fresh(x []byte) []cell {
	cells := make([]cell, len(x))
	for i, b := range x {
		cells[i] = cell{i, b}
	}
	return cells
}

// distinct is a text of n bytes that are all unlike.
func distinct(n int) []byte {
	x := make([]byte, n)
	for i := range x {
		x[i] = 0x80 + byte(i)
	}
	return x
}

func bytesOf(cells []cell) []byte {
	var x []byte
	for _, c := range cells {
		x = append(x, c.b)
	}
	return x
}

// do is what becomes of a text by operations of the three kinds, one behind the other.
func do(old []cell, d api.Delta) []cell {
	var made []cell
	for _, op := range d {
		switch op.Kind {
		case api.Keep:
			made, old = append(made, old[:op.N]...), old[op.N:]
		case api.Drop:
			old = old[op.N:]
		case api.Put:
			for i := range len(op.Text) {
				made = append(made, cell{-1, op.Text[i]})
			}
		}
	}
	if len(old) > 0 {
		panic("bytes are left")
	}
	return made
}

// deed is what a delta does: which bytes of the old text it keeps, and what it writes ahead of each of these, and behind the last.
type deed struct {
	kept   []bool
	writes []string
}

// deedOf reads the deed off the cells that an old text of n bytes has become.
func deedOf(n int, now []cell) deed {
	w := deed{kept: make([]bool, n), writes: []string{""}}
	for _, c := range now {
		if c.was < 0 {
			w.writes[len(w.writes)-1] += string([]byte{c.b})
		} else {
			w.kept[c.was] = true
			w.writes = append(w.writes, "")
		}
	}
	return w
}

func (w deed) key() string { return fmt.Sprintf("%v %q", w.kept, w.writes) }

// canon is the canonical delta that does this: between two kept bytes first what is written, then what is dropped.
func (w deed) canon() api.Delta {
	var d api.Delta
	gap := 0
	write := func(dropped int) {
		if w.writes[gap] != "" {
			d = append(d, put(w.writes[gap]))
		}
		if dropped > 0 {
			d = append(d, drop(dropped))
		}
		gap++
	}
	dropped := 0
	for _, kept := range w.kept {
		if !kept {
			dropped++
			continue
		}
		write(dropped)
		dropped = 0
		if n := len(d); n > 0 && d[n-1].Kind == api.Keep {
			d[n-1].N++
		} else {
			d = append(d, keep(1))
		}
	}
	write(dropped)
	return d
}

// lens are from and to, however great the numbers are.
func lens(d api.Delta) (from, to *big.Int) {
	from, to = new(big.Int), new(big.Int)
	for _, op := range d {
		n := big.NewInt(int64(op.N))
		switch op.Kind {
		case api.Keep:
			from.Add(from, n)
			to.Add(to, n)
		case api.Drop:
			from.Add(from, n)
		case api.Put:
			to.Add(to, big.NewInt(int64(len(op.Text))))
		}
	}
	return from, to
}

func tooMuch(d api.Delta) bool {
	most := big.NewInt(api.MaxText)
	from, to := lens(d)
	return from.Cmp(most) > 0 || to.Cmp(most) > 0
}

func canonical(d api.Delta) bool {
	for i, op := range d {
		switch op.Kind {
		case api.Keep, api.Drop:
			if op.N < 1 || op.Text != "" {
				return false
			}
		case api.Put:
			if op.N != 0 || op.Text == "" {
				return false
			}
		default:
			return false
		}
		if i > 0 && (d[i-1].Kind == op.Kind || d[i-1].Kind == api.Drop && op.Kind == api.Put) {
			return false
		}
	}
	return !tooMuch(d)
}

// canonOf is what Canon is to answer of a delta of a short text, or with an error.
func canonOf(d api.Delta) (api.Delta, api.Errno) {
	for _, op := range d {
		if op.Kind != api.Keep && op.Kind != api.Put && op.Kind != api.Drop || op.Kind != api.Put && op.N < 0 {
			return nil, api.ErrDelta
		}
	}
	if tooMuch(d) {
		return nil, api.ErrLong
	}
	return deedDone(d).canon(), api.OK
}

// deedDone is what a delta of a short text does.
func deedDone(d api.Delta) deed {
	from, _ := lens(d)
	n := int(from.Int64())
	return deedOf(n, do(fresh(distinct(n)), d))
}

// changesOf are the changes of a canonical delta: one for each longest piece without a Keep.
func changesOf(d api.Delta) []api.Change {
	var cs []api.Change
	for i := 0; i < len(d); {
		if d[i].Kind == api.Keep {
			i++
			continue
		}
		end := i
		for end < len(d) && d[end].Kind != api.Keep {
			end++
		}
		from, _ := lens(d[:i])
		behind, _ := lens(d[:end])
		c := api.Change{Lo: int(from.Int64()), Hi: int(behind.Int64())}
		for _, op := range d[i:end] {
			c.Text += op.Text
		}
		cs = append(cs, c)
		i = end
	}
	return cs
}

// ofChanges is what Of is to answer of a short text, or with an error: all bytes are kept but those that a change takes out, and each text is written behind the bytes that are kept ahead of its change.
func ofChanges(n int, cs []api.Change) (api.Delta, api.Errno) {
	if n < 0 || n > api.MaxText {
		return nil, api.ErrRange
	}
	size := n
	for _, c := range cs {
		if !(0 <= c.Lo && c.Lo <= c.Hi && c.Hi <= n) {
			return nil, api.ErrRange
		}
		size += len(c.Text) - (c.Hi - c.Lo)
	}
	for i := range cs {
		if i > 0 && cs[i].Lo < cs[i-1].Hi {
			return nil, api.ErrCross
		}
	}
	if size > api.MaxText {
		return nil, api.ErrLong
	}
	w := deed{kept: slices.Repeat([]bool{true}, n)}
	for _, c := range cs {
		for p := c.Lo; p < c.Hi; p++ {
			w.kept[p] = false
		}
	}
	keptAhead := func(p int) int {
		k := 0
		for _, kept := range w.kept[:p] {
			if kept {
				k++
			}
		}
		return k
	}
	w.writes = make([]string, keptAhead(n)+1)
	for _, c := range cs {
		w.writes[keptAhead(c.Lo)] += c.Text
	}
	return w.canon(), api.OK
}

// canonicals are the canonical deltas of up to n operations with numbers of 1 and 2 and texts of one byte and two. The bytes put are the ones from first on, each once.
func canonicals(n int, first byte) []api.Delta {
	var all []api.Delta
	for k := range n + 1 {
		rows(k, []api.Op{keep(1), keep(2), drop(1), drop(2), put("1"), put("22")}, func(list []api.Op) {
			if !canonical(list) {
				return
			}
			d, next := slices.Clone(api.Delta(list)), first
			for i := range d {
				text := make([]byte, len(d[i].Text))
				for j := range text {
					text[j] = next
					next++
				}
				d[i].Text = string(text)
			}
			all = append(all, d)
		})
	}
	return all
}

// byFrom are the deltas by the length of the text that they are of.
func byFrom(ds []api.Delta) map[int][]api.Delta {
	by := map[int][]api.Delta{}
	for _, d := range ds {
		from, _ := lens(d)
		by[int(from.Int64())] = append(by[int(from.Int64())], d)
	}
	return by
}
