package match

import (
	"strings"
	"unicode/utf8"

	"galley/api"
)

const (
	// marks stand for themselves only behind a backslash.
	marks = `()[].*+?|\`
	// escapable stand for themselves behind one.
	escapable = marks + "-^"
)

// end is the rune that is told behind the last one.
const end = -1

// fault is what a reader gives up with.
type fault struct {
	place int
	err   api.Errno
}

// reader goes over the runes of a text.
type reader struct {
	runes []rune
	// places is where each of them begins, and the text's length.
	places []int
	at     int
	depth  int
}

// parse: the whole pattern, or its first fault.
func parse(text string) (root node, place int, err api.Errno) {
	defer func() {
		switch f := recover().(type) {
		case nil:
		case fault:
			root, place, err = nil, f.place, f.err
		default:
			panic(f)
		}
	}()
	return readerOf(text).pattern(), 0, api.OK
}

func readerOf(text string) *reader {
	if len(text) > api.MaxPattern {
		panic(fault{api.MaxPattern, api.ErrPattern})
	}
	r := &reader{}
	for place, c := range text {
		if c == utf8.RuneError && !strings.HasPrefix(text[place:], string(utf8.RuneError)) {
			panic(fault{place, api.ErrPattern})
		}
		r.runes = append(r.runes, c)
		r.places = append(r.places, place)
	}
	r.places = append(r.places, len(text))
	return r
}

func (r *reader) place() int { return r.places[r.at] }

func (r *reader) peek() rune {
	if r.at == len(r.runes) {
		return end
	}
	return r.runes[r.at]
}

// next: the rune that stands here; and goes over it.
func (r *reader) next() rune {
	c := r.peek()
	if c != end {
		r.at++
	}
	return c
}

// take goes over the rune, if it stands here.
func (r *reader) take(c rune) bool {
	if r.peek() != c {
		return false
	}
	r.at++
	return true
}

// wrong gives up: at the place nothing stands that there is room for.
func wrong(place int) {
	panic(fault{place, api.ErrPattern})
}

func (r *reader) pattern() node {
	all := r.choice()
	if r.peek() != end {
		wrong(r.place())
	}
	return all
}

func (r *reader) choice() node {
	rows := choice{r.row()}
	for r.take('|') {
		rows = append(rows, r.row())
	}
	return rows
}

func (r *reader) row() node {
	var pieces row
	for {
		switch r.peek() {
		case '|', ')', end:
			return pieces
		}
		pieces = append(pieces, r.piece())
	}
}

func (r *reader) piece() node {
	atom := r.atom()
	switch r.peek() {
	case '*', '+', '?':
		return repeat{atom, r.next()}
	}
	return atom
}

func (r *reader) atom() node {
	begin := r.place()
	switch c := r.next(); c {
	case '(':
		return r.group(begin)
	case '[':
		return one{r.class()}
	case '.':
		return one{set{{0, lastSign}}}
	case '\\':
		return one{set{r.escape(begin)}}
	default:
		if strings.ContainsRune(marks, c) {
			wrong(begin)
		}
		return one{set{just(c)}}
	}
}

// group: what stands from behind its parenthesis on, which is at the place begin.
func (r *reader) group(begin int) node {
	if r.depth == api.MaxDepth {
		panic(fault{begin, api.ErrDeep})
	}
	r.depth++
	inner := r.choice()
	if !r.take(')') {
		wrong(r.place())
	}
	r.depth--
	return inner
}

// class: what stands from behind its bracket on.
func (r *reader) class() set {
	not := r.take('^')
	items := []span{r.item()}
	for !r.take(']') {
		items = append(items, r.item())
	}
	if not {
		return setOf(items).others()
	}
	return setOf(items)
}

func (r *reader) item() span {
	begin := r.place()
	first := r.single()
	if !r.take('-') {
		return first
	}
	second := r.single()
	if !first.ofRunes() || !second.ofRunes() || first.first > second.first {
		wrong(begin)
	}
	return span{first.first, second.first}
}

// single: one that stands in brackets, or any bad byte.
func (r *reader) single() span {
	begin := r.place()
	switch c := r.next(); c {
	case ']', '-', end:
		wrong(begin)
	case '\\':
		return r.escape(begin)
	default:
		return just(c)
	}
	return span{}
}

// escape: what stands from behind its backslash on, which is at the place begin.
func (r *reader) escape(begin int) span {
	c := r.next()
	switch c {
	case 'n':
		return just('\n')
	case 'r':
		return just('\r')
	case 't':
		return just('\t')
	case 'a':
		return span{firstBad, lastSign}
	case 'x':
		if n, digits := r.number(2); digits == 2 && n >= 0x80 {
			return just(badSign + n)
		}
	case 'u':
		if n, ok := r.braced(); ok {
			return just(n)
		}
	default:
		if strings.ContainsRune(escapable, c) {
			return just(c)
		}
	}
	wrong(begin)
	return span{}
}

// braced: a rune by its number, with its braces.
func (r *reader) braced() (rune, bool) {
	if !r.take('{') {
		return 0, false
	}
	n, digits := r.number(6)
	return n, digits > 0 && r.take('}') && utf8.ValidRune(n)
}

// number: of at most so many digits of base sixteen, and how many there are.
func (r *reader) number(most int) (n rune, digits int) {
	for digits < most {
		d := digit(r.peek())
		if d < 0 {
			break
		}
		n = n*16 + d
		digits++
		r.at++
	}
	return n, digits
}

// digit: -1, if it is none.
func digit(c rune) rune {
	switch {
	case '0' <= c && c <= '9':
		return c - '0'
	case 'a' <= c && c <= 'f':
		return c - 'a' + 10
	case 'A' <= c && c <= 'F':
		return c - 'A' + 10
	}
	return -1
}
