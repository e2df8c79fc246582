package doc

import (
	"galley/api"
	"galley/delta"
)

// group is what was done since a Begin. Its step is the one that an End makes of it, with a delta only then.
type group struct {
	*step
	deltas chain
}

// add: one more delta, from one page to the next.
func (g *group) add(x api.Delta, from, to page) {
	if len(g.deltas) == 0 {
		// What may stand in the step was taken back, and is lost now.
		*g.step = step{ahead: from}
	}
	g.behind = to
	g.deltas = g.deltas.with(x)
}

// close: the deltas are the step's one, if there are any.
func (g *group) close() {
	if len(g.deltas) > 0 {
		g.delta = g.deltas.whole()
	}
}

// chain is deltas, each of what the one ahead of it makes. All of a long group's delta would have to be gone through at each edit, were it composed at once: so each is more than twice as long as the next one, and there are only few of them.
type chain []api.Delta

// with: one more, behind the others.
func (c chain) with(x api.Delta) chain {
	c = append(c, copied(x))
	for n := len(c); n > 1 && len(c[n-2]) <= 2*len(c[n-1]); n-- {
		c = c.shorter()
	}
	return c
}

// whole: all of them as one.
func (c chain) whole() api.Delta {
	for len(c) > 1 {
		c = c.shorter()
	}
	return c[0]
}

// shorter: the last two are one.
func (c chain) shorter() chain {
	last := len(c) - 1
	both, _ := delta.Compose(c[last-1], c[last])
	c[last-1] = copied(both)
	// It would be kept in the chain's spare room.
	c[last] = nil
	return c[:last]
}
