package rope

import (
	"galley/api"
	"galley/leaf"
	"galley/weld"
)

// maxMerged is up to how many bytes two leaves that come to stand beside each other are made one. So any two neighbours have more together, and there are never many short leaves. It is less than a leaf may have, so that a byte put to a text has few others copied and measured again.
const maxMerged = api.MaxLeaf / 4

// node is a part of a tree: a tip or a fork. None is without bytes: where there are no bytes there is no node (nil).
type node interface {
	measure() api.Weld
	height() int
}

// tip is a leaf, as a node.
type tip struct {
	leaf *leaf.Leaf
}

// fork is two nodes, one behind the other, whose heights differ by one at most: so a tree is never much higher than it must be.
type fork struct {
	left, right node
	weld        api.Weld
	high        int
}

func (t tip) measure() api.Weld { return t.leaf.Weld() }

func (t tip) height() int { return 1 }

func (f *fork) measure() api.Weld { return f.weld }

func (f *fork) height() int { return f.high }

func size(n node) int {
	if n == nil {
		return 0
	}
	return n.measure().Sizes.Bytes
}

// both: the measure of bytes that have these two. They are of parts of one text, so that no error can be.
func both(a, b api.Weld) api.Weld {
	w, _ := weld.Join(a, b)
	return w
}

// newFork: a fork of two nodes whose heights differ by one at most.
func newFork(left, right node) *fork {
	return &fork{
		left:  left,
		right: right,
		weld:  both(left.measure(), right.measure()),
		high:  max(left.height(), right.height()) + 1,
	}
}

// treeOf: the tree of bytes that are few enough for a text.
func treeOf(b []byte) node {
	leaves, _ := leaf.Cut(b, api.MaxLeaf)
	return treeOfLeaves(leaves)
}

func treeOfLeaves(leaves []*leaf.Leaf) node {
	switch len(leaves) {
	case 0:
		return nil
	case 1:
		return tip{leaves[0]}
	}
	half := len(leaves) / 2
	return newFork(treeOfLeaves(leaves[:half]), treeOfLeaves(leaves[half:]))
}

// halves: the two sides of a fork; of a tip with more than one byte two tips of half its bytes each.
func halves(n node) (left, right node) {
	switch x := n.(type) {
	case *fork:
		return x.left, x.right
	case tip:
		a, b, _ := x.leaf.Split(x.leaf.Len() / 2)
		return tip{a}, tip{b}
	}
	return nil, nil
}

// join: the bytes of a, then those of b.
func join(a, b node) node {
	if a == nil || b == nil {
		return linked(a, b)
	}
	last, first := lastLeaf(a), firstLeaf(b)
	if last.Len()+first.Len() > maxMerged {
		return linked(a, b)
	}
	merged, _ := leaf.Join(last, first)
	return linked(withLast(a, merged), withoutFirst(b))
}

// linked: as join, with all leaves as they are: the lower tree goes into the higher one's side, at the node that is about as high. What is answered is at most one higher than the higher one.
func linked(a, b node) node {
	switch {
	case a == nil:
		return b
	case b == nil:
		return a
	case a.height() > b.height()+1:
		left, right := halves(a)
		return balanced(left, linked(right, b))
	case b.height() > a.height()+1:
		left, right := halves(b)
		return balanced(linked(a, left), right)
	}
	return newFork(a, b)
}

// balanced: both, one behind the other, if their heights differ by two at most: then the higher one's parts are put together otherwise.
func balanced(left, right node) node {
	switch lean := left.height() - right.height(); {
	case lean > 1:
		outer, inner := halves(left)
		if inner.height() <= outer.height() {
			return newFork(outer, newFork(inner, right))
		}
		a, b := halves(inner)
		return newFork(newFork(outer, a), newFork(b, right))
	case lean < -1:
		inner, outer := halves(right)
		if inner.height() <= outer.height() {
			return newFork(newFork(left, inner), outer)
		}
		a, b := halves(inner)
		return newFork(newFork(left, a), newFork(b, outer))
	}
	return newFork(left, right)
}

func firstLeaf(n node) *leaf.Leaf {
	switch x := n.(type) {
	case *fork:
		return firstLeaf(x.left)
	case tip:
		return x.leaf
	}
	return nil
}

func lastLeaf(n node) *leaf.Leaf {
	switch x := n.(type) {
	case *fork:
		return lastLeaf(x.right)
	case tip:
		return x.leaf
	}
	return nil
}

// withLast: the tree with another leaf in the place of its last one.
func withLast(n node, l *leaf.Leaf) node {
	switch x := n.(type) {
	case *fork:
		return newFork(x.left, withLast(x.right, l))
	}
	return tip{l}
}

// withoutFirst: the tree without its first leaf.
func withoutFirst(n node) node {
	switch x := n.(type) {
	case *fork:
		return linked(withoutFirst(x.left), x.right)
	}
	return nil
}

// split: the first n bytes, and the others.
func split(whole node, n int) (first, others node) {
	if n == 0 {
		return nil, whole
	}
	if n == size(whole) {
		return whole, nil
	}
	switch x := whole.(type) {
	case *fork:
		if left := size(x.left); n > left {
			a, b := split(x.right, n-left)
			return join(x.left, a), b
		}
		a, b := split(x.left, n)
		return a, join(b, x.right)
	case tip:
		a, b, _ := x.leaf.Split(n)
		return tip{a}, tip{b}
	}
	return nil, nil
}

// before: the measure of the first n bytes.
func before(whole node, n int) api.Weld {
	switch x := whole.(type) {
	case *fork:
		if left := size(x.left); n > left {
			return both(x.left.measure(), before(x.right, n-left))
		}
		return before(x.left, n)
	case tip:
		w, _ := x.leaf.Before(n)
		return w
	}
	return api.Weld{}
}

// shortest: the length of the shortest beginning that is enough, if that of no bytes is not, and all bytes are. Also where enough is not lasting: it was not true of what stands ahead of n, and true of that with n.
func shortest(n node, enough func(api.Weld) bool) int {
	var ahead api.Weld
	for size(n) > 1 {
		left, right := halves(n)
		more := both(ahead, left.measure())
		if enough(more) {
			n = left
		} else {
			ahead, n = more, right
		}
	}
	return ahead.Sizes.Bytes + 1
}

// forwards gives the bytes from a place on, leaf by leaf; false: no more are wanted.
func forwards(n node, from int, yield func([]byte) bool) bool {
	switch x := n.(type) {
	case *fork:
		left := size(x.left)
		if from < left && !forwards(x.left, from, yield) {
			return false
		}
		return forwards(x.right, max(0, from-left), yield)
	case tip:
		return from >= x.leaf.Len() || yield(x.leaf.Bytes()[from:])
	}
	return true
}

// backwards gives the bytes ahead of a place, leaf by leaf, the last one first; false: no more are wanted.
func backwards(n node, from int, yield func([]byte) bool) bool {
	switch x := n.(type) {
	case *fork:
		left := size(x.left)
		if from > left && !backwards(x.right, from-left, yield) {
			return false
		}
		return backwards(x.left, min(from, left), yield)
	case tip:
		return from <= 0 || yield(x.leaf.Bytes()[:from])
	}
	return true
}
