package doc

import (
	"slices"
	"strings"

	"galley/api"
	"galley/delta"
	"galley/marks"
	"galley/ranges"
	"galley/rope"
)

// page is a text with its marks and ranges, at one moment. None of the three ever changes, so that pages may be kept.
type page struct {
	text   *rope.Rope
	marks  *marks.Marks
	ranges *ranges.Ranges
}

// newPage: of bytes, without marks and ranges.
func newPage(b []byte) (page, api.Errno) {
	text, err := rope.New(b)
	if err != api.OK {
		return page{}, err
	}
	m, _ := marks.New(len(b))
	r, _ := ranges.New(len(b))
	return page{text: text, marks: m, ranges: r}, api.OK
}

// mark: these are the marks, unless there was an error with them.
func (p *page) mark(m *marks.Marks, err api.Errno) api.Errno {
	if err == api.OK {
		p.marks = m
	}
	return err
}

// span: these are the ranges, unless there was an error with them.
func (p *page) span(r *ranges.Ranges, err api.Errno) api.Errno {
	if err == api.OK {
		p.ranges = r
	}
	return err
}

// behind: what a canonical delta of the text makes of it.
func (p page) behind(x api.Delta) page {
	// Marks and ranges are of the text's length, so that they have nothing to refuse.
	m, _ := p.marks.Behind(x)
	r, _, _ := p.ranges.Behind(x)
	return page{text: changed(p.text, x), marks: m, ranges: r}
}

// changed: the text that a canonical delta makes. edit.ApplyAll would not take as many changes as a delta may have. Each part is put behind the others, from the first on: so no text on the way is longer than the last one.
func changed(text *rope.Rope, x api.Delta) *rope.Rope {
	all, _ := rope.New(nil)
	rest := text
	for _, op := range x {
		var part *rope.Rope
		switch op.Kind {
		case api.Keep:
			part, rest, _ = rest.Split(op.N)
			all, _ = rope.Join(all, part)
		case api.Put:
			part, _ = rope.New([]byte(op.Text))
			all, _ = rope.Join(all, part)
		case api.Drop:
			_, rest, _ = rest.Split(op.N)
		}
	}
	return all
}

// inverse: as delta.Invert of the text's bytes, without going through all of them.
func inverse(text *rope.Rope, x api.Delta) api.Delta {
	changes, _ := delta.Changes(x)
	grown := 0
	for i, c := range changes {
		gone, _ := text.Bytes(c.Lo, c.Hi)
		lo := c.Lo + grown
		changes[i] = api.Change{Lo: lo, Hi: lo + len(c.Text), Text: string(gone)}
		grown += len(c.Text) - len(gone)
	}
	back, _ := delta.Of(text.Len()+grown, changes)
	return back
}

// copied: a delta in memory of its own. Its texts may be pieces of long ones, all of which would be kept with them.
func copied(x api.Delta) api.Delta {
	x = slices.Clone(x)
	for i := range x {
		x[i].Text = strings.Clone(x[i].Text)
	}
	return x
}
