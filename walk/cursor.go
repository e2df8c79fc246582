package walk

import (
	"galley/api"
	"galley/rope"
	"galley/seek"
)

// stand is where a cursor is: at an edge, told by bytes.
type stand struct{ edge int }

func (s *stand) goTo(edge int) { s.edge = edge }

// Cursor stands at an edge of a rope.
type Cursor struct {
	rope *rope.Rope
	stand
}

// New: at the edge at or ahead of a byte place.
func New(r *rope.Rope, place int) (*Cursor, api.Errno) {
	edge, err := seek.Floor(r, place)
	if err != api.OK {
		return nil, err
	}
	return &Cursor{rope: r, stand: stand{edge}}, api.OK
}

// Place: where it stands, by a ruler.
func (c *Cursor) Place(u api.Ruler) (int, api.Errno) {
	if c == nil {
		return 0, api.ErrNil
	}
	return seek.To(c.rope, api.Bytes, c.edge, u, api.Exact)
}

// Next: goes over the step behind it.
func (c *Cursor) Next() (api.Step, bool) {
	if c == nil {
		return api.Step{}, false
	}
	begin, s, err := seek.Step(c.rope, c.edge)
	if err != api.OK {
		return api.Step{}, false
	}
	c.goTo(begin + s.Width)
	return s, true
}

// Prev: goes back over the step ahead of it.
func (c *Cursor) Prev() (api.Step, bool) {
	if c == nil {
		return api.Step{}, false
	}
	begin, s, err := seek.Step(c.rope, c.edge-1)
	if err != api.OK {
		return api.Step{}, false
	}
	c.goTo(begin)
	return s, true
}

// Skip: goes over so many steps, backwards if n is below 0; over how many it went.
func (c *Cursor) Skip(n int) int {
	if c == nil {
		return 0
	}
	// Each step counts one by runes; so the ruler tells where they lead, however many they are.
	here, _ := c.Place(api.Runes)
	size := c.rope.Weld().Sizes.Runes
	there := here + min(max(n, -here), size-here)
	edge, _ := seek.To(c.rope, api.Runes, there, api.Bytes, api.Exact)
	c.goTo(edge)
	return max(here-there, there-here)
}
