package match

import "slices"

// node is a piece of a pattern.
type node interface {
	// lay puts the node's states ahead of the state next, and answers the one with which it begins.
	lay(b *builder, next int) int
}

// one matches a step.
type one struct{ takes set }

// row matches what its pieces match, one behind the other.
type row []node

// choice matches what one of its rows matches; it has one at least.
type choice []node

// repeat matches what its atom matches, again and again, as * + ? say.
type repeat struct {
	atom node
	how  rune
}

// builder lays a machine that goes over steps from the first on, or, if back is true, from the last on.
type builder struct {
	machine
	back bool
}

func build(root node, back bool) machine {
	b := builder{back: back}
	b.start = root.lay(&b, done)
	return b.machine
}

// add answers the number of a new state.
func (b *builder) add(s state) int {
	b.states = append(b.states, s)
	return len(b.states)
}

func (o one) lay(b *builder, next int) int {
	return b.add(state{takes: o.takes, next: next})
}

// What is gone over last is laid first, for it stands ahead of what follows.
func (r row) lay(b *builder, next int) int {
	pieces := slices.Clone(r)
	if !b.back {
		slices.Reverse(pieces)
	}
	for _, piece := range pieces {
		next = piece.lay(b, next)
	}
	return next
}

func (c choice) lay(b *builder, next int) int {
	begin := c[0].lay(b, next)
	for _, other := range c[1:] {
		begin = b.add(state{fork: true, next: begin, other: other.lay(b, next)})
	}
	return begin
}

func (r repeat) lay(b *builder, next int) int {
	if r.how == '?' {
		return b.add(state{fork: true, next: r.atom.lay(b, next), other: next})
	}
	again := b.add(state{fork: true, other: next})
	begin := r.atom.lay(b, again)
	b.states[again-1].next = begin
	if r.how == '+' {
		return begin
	}
	return again
}
