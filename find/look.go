package find

import (
	"iter"
	"unicode/utf8"

	"galley/api"
	"galley/rope"
	"galley/step"
)

// reach is how many bytes on either side of a place tell whether it is an edge.
const reach = 3

// look is a needle that is looked for in a rope.
type look struct {
	rope   *rope.Rope
	needle []byte
	alike  func(x, y byte) bool
	// borders tells, for each beginning of the needle, how long the longest shorter beginning is that it ends with. So no byte of the text is gone back to, however the needle goes over itself.
	borders []int32
}

// lookFor: the needle has a byte at least.
func lookFor(r *rope.Rope, needle []byte, fold bool) *look {
	l := &look{rope: r, needle: needle, alike: likeness(fold)}
	// One that is longer than the text is held against nothing, however long it is.
	if len(needle) > r.Len() {
		return l
	}
	l.borders = make([]int32, 1, len(needle))
	border := 0
	for _, x := range needle[1:] {
		border = l.grown(border, x)
		l.borders = append(l.borders, int32(border))
	}
	return l
}

// grown: with how many of the needle's bytes the text ends, if it ended with n, and x comes behind it.
func (l *look) grown(n int, x byte) int {
	for n == len(l.needle) || !l.alike(l.needle[n], x) {
		if n == 0 {
			return 0
		}
		n = int(l.borders[n-1])
	}
	return n + 1
}

func (l *look) hit(lo int) api.Hit {
	return api.Hit{Lo: lo, Hi: lo + len(l.needle)}
}

// hits: from the first on, none over another.
func (l *look) hits() iter.Seq[api.Hit] {
	return func(yield func(api.Hit) bool) {
		free := 0
		for lo := range l.places(0) {
			if lo < free {
				continue
			}
			free = lo + len(l.needle)
			if !yield(l.hit(lo)) {
				return
			}
		}
	}
}

// places: those at or behind from at which the needle stands, rising, also such as go over one another.
func (l *look) places(from int) iter.Seq[int] {
	return func(yield func(int) bool) {
		end := l.rope.Len() - len(l.needle) + 1
		for at := from; at < end; at += l.width() {
			for lo := range l.block(at, min(end, at+l.width())) {
				if !yield(lo) {
					return
				}
			}
		}
	}
}

// last: the last place at which the needle stands and ends at or ahead of to.
func (l *look) last(to int) (lo int, ok bool) {
	for end := to - len(l.needle) + 1; end > 0 && !ok; end -= l.width() {
		for at := range l.block(max(0, end-l.width()), end) {
			lo, ok = at, true
		}
	}
	return lo, ok
}

// width is how many places a block has: so many that reading the needle's length beyond them costs no more than they do.
func (l *look) width() int {
	return max(api.MaxLeaf, len(l.needle))
}

// block: the places from lo to ahead of end, rising. None of them is so far behind that the needle would end behind the text. Only the bytes that tell of these are read.
func (l *look) block(lo, end int) iter.Seq[int] {
	return func(yield func(int) bool) {
		behind := end - 1 + len(l.needle)
		begin := max(0, lo-reach)
		b, _ := l.rope.Bytes(begin, min(l.rope.Len(), behind+reach))
		n := 0
		for i := lo - begin; i < behind-begin; i++ {
			n = l.grown(n, b[i])
			if n < len(l.needle) {
				continue
			}
			first := i + 1 - n
			if edge(b, first) && edge(b, i+1) && !yield(begin+first) {
				return
			}
		}
	}
}

// edge: most places are told by one byte, for no step goes on with one that may begin a rune.
func edge(b []byte, p int) bool {
	return p < len(b) && utf8.RuneStart(b[p]) || step.Edge(b, p)
}

// likeness answers a closure that tells whether two bytes are alike.
func likeness(fold bool) func(x, y byte) bool {
	return func(x, y byte) bool {
		return x == y || fold && x^y == caseBit && letter(x)
	}
}

// caseBit is what the two cases of a letter of ASCII differ by.
const caseBit = 'a' - 'A'

func letter(x byte) bool {
	x |= caseBit
	return 'a' <= x && x <= 'z'
}
