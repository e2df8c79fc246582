package words

import (
	"galley/api"
	"galley/lines"
	"galley/step"
)

// Column: how far to the right a place stands in its line, with tabs to every w-th column.
func Column(b []byte, place, w int) (int, api.Errno) {
	spot, err := lines.Spot(b, place, api.Bytes)
	if err != api.OK || !mayBeWidth(w) {
		return 0, api.ErrRange
	}
	edge, _ := step.Floor(b, place)
	column := 0
	for _, s := range step.All(b[edge-spot.Col : edge]) {
		switch Kind(s) {
		case api.EndKind:
			// Between CR and LF one stands where the content ends.
		case api.BlankKind:
			if s.Rune == '\t' {
				// To the last column ahead of the next stop: as each step does, the tab goes one further.
				column += w - 1 - column%w
			}
			fallthrough
		default:
			column++
		}
	}
	return column, api.OK
}

// Wrap: where the lines of a text are broken so that none is wider than w, at blanks if it can be.
func Wrap(b []byte, w int) ([]int, api.Errno) {
	if !mayBeWidth(w) {
		return nil, api.ErrRange
	}
	var breaks []int
	var r row
	for place, s := range step.All(b) {
		kind := Kind(s)
		if kind != api.EndKind && r.steps == w {
			breaks = append(breaks, r.cut(place))
		}
		switch kind {
		case api.EndKind:
			r = row{}
		case api.BlankKind:
			r.blank, r.upTo = place+s.Width, r.steps+1
			fallthrough
		default:
			r.steps++
		}
	}
	return breaks, api.OK
}

// row is what has been gone over since the last break or line end: how many steps; where its last blank ends (0: it has none), and how many of the steps stand up to there.
type row struct {
	steps, blank, upTo int
}

// cut breaks the row ahead of the step that begins at a place, and tells where: what stands behind the last blank belongs to the next row.
func (r *row) cut(place int) int {
	if r.blank == 0 {
		*r = row{}
		return place
	}
	at := r.blank
	*r = row{steps: r.steps - r.upTo}
	return at
}

// mayBeWidth: may tabs stand so far apart, and lines be so wide?
func mayBeWidth(w int) bool {
	return 1 <= w && w <= api.MaxLine
}
