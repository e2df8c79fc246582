package delta

import (
	"strings"

	"galley/api"
)

// each hands the operations on, from the first one: to one of the three, by its kind.
func each(d api.Delta, keep func(n int), put func(text string), drop func(n int)) {
	for _, op := range d {
		switch op.Kind {
		case api.Keep:
			keep(op.N)
		case api.Put:
			put(op.Text)
		case api.Drop:
			drop(op.N)
		}
	}
}

// eachChange hands on what changes that rise do to n bytes, as each does.
func eachChange(n int, cs []api.Change, keep func(n int), put func(text string), drop func(n int)) {
	at := 0
	for _, c := range cs {
		keep(c.Lo - at)
		put(c.Text)
		drop(c.Hi - c.Lo)
		at = c.Hi
	}
	keep(n - at)
}

// sizes counts from and to. Beyond MaxText they stay at one more, so that no numbers can be too great for them.
type sizes struct {
	from, to int
}

func measure(d api.Delta) sizes {
	var z sizes
	each(d, z.keep, z.put, z.drop)
	return z
}

func (z *sizes) keep(n int) {
	z.from, z.to = more(z.from, n), more(z.to, n)
}

func (z *sizes) put(text string) {
	z.to = more(z.to, len(text))
}

func (z *sizes) drop(n int) {
	z.from = more(z.from, n)
}

func (z sizes) long() bool {
	return max(z.from, z.to) > api.MaxText
}

func more(size, n int) int {
	return min(size+min(n, api.MaxText+1), api.MaxText+1)
}

// builder makes a canonical delta. What is put and dropped between two kept bytes may come in any order.
type builder struct {
	ops     api.Delta
	kept    int      // so many bytes are kept behind ops,
	texts   []string // then these are put,
	dropped int      // and so many are dropped
}

func (b *builder) keep(n int) {
	if n == 0 {
		return
	}
	if len(b.texts) > 0 || b.dropped > 0 {
		b.close()
	}
	b.kept += n
}

func (b *builder) put(text string) {
	if text != "" {
		b.texts = append(b.texts, text)
	}
}

func (b *builder) drop(n int) {
	b.dropped += n
}

// close writes what waits.
func (b *builder) close() {
	if b.kept > 0 {
		b.ops = append(b.ops, api.Op{Kind: api.Keep, N: b.kept})
	}
	if len(b.texts) > 0 {
		b.ops = append(b.ops, api.Op{Kind: api.Put, Text: strings.Join(b.texts, "")})
	}
	if b.dropped > 0 {
		b.ops = append(b.ops, api.Op{Kind: api.Drop, N: b.dropped})
	}
	b.kept, b.texts, b.dropped = 0, b.texts[:0], 0
}

func (b *builder) delta() api.Delta {
	b.close()
	return b.ops
}

// lister makes the changes of a canonical delta.
type lister struct {
	at      int // so many bytes of the old text stand ahead
	changes []api.Change
}

// here: the change that ends where the lister is. Those that are further ahead have a kept byte behind them.
func (l *lister) here() *api.Change {
	if n := len(l.changes); n == 0 || l.changes[n-1].Hi != l.at {
		l.changes = append(l.changes, api.Change{Lo: l.at, Hi: l.at})
	}
	return &l.changes[len(l.changes)-1]
}

func (l *lister) keep(n int) {
	l.at += n
}

func (l *lister) put(text string) {
	l.here().Text = text
}

func (l *lister) drop(n int) {
	l.here().Hi += n
	l.at += n
}

// writer makes the new text.
type writer struct {
	rest    []byte // of the old one
	written []byte
}

func (w *writer) keep(n int) {
	w.written = append(w.written, w.rest[:n]...)
	w.rest = w.rest[n:]
}

func (w *writer) put(text string) {
	w.written = append(w.written, text...)
}

func (w *writer) drop(n int) {
	w.rest = w.rest[n:]
}

// inverter makes the delta that goes back from the new text to the old one.
type inverter struct {
	rest []byte // of the old one
	all  builder
}

func (v *inverter) keep(n int) {
	v.all.keep(n)
	v.rest = v.rest[n:]
}

func (v *inverter) put(text string) {
	v.all.drop(len(text))
}

func (v *inverter) drop(n int) {
	v.all.put(string(v.rest[:n]))
	v.rest = v.rest[n:]
}
