package delta

import "galley/api"

// reader takes a canonical delta piece by piece.
type reader struct {
	rest api.Delta
	used int // bytes of the first operation that are taken already
}

// kind: of what comes next; none, if nothing does.
func (r *reader) kind() api.OpKind {
	if len(r.rest) == 0 {
		return 0
	}
	return r.rest[0].Kind
}

// left: how many bytes of the first operation aren't taken yet.
func (r *reader) left() int {
	return r.rest[0].N + len(r.rest[0].Text) - r.used
}

// take goes over n bytes of the first operation, and answers them if they are put ones.
func (r *reader) take(n int) string {
	text := ""
	if r.kind() == api.Put {
		text = r.rest[0].Text[r.used : r.used+n]
	}
	r.used += n
	if r.left() == 0 {
		r.rest, r.used = r.rest[1:], 0
	}
	return text
}

// composed: first a, then b, of two that fit. The text between them is gone over once: its bytes are those that a keeps and puts, and that b keeps and drops.
func composed(a, b api.Delta) api.Delta {
	first, then := reader{rest: a}, reader{rest: b}
	var all builder
	for {
		switch {
		case first.kind() == api.Drop:
			n := first.left()
			first.take(n)
			all.drop(n)
		case then.kind() == api.Put:
			all.put(then.take(then.left()))
		case first.kind() == 0:
			return all.delta()
		default:
			through(&first, &then, &all)
		}
	}
}

// through takes the next bytes of the text between, as many as share one fate: those that a put and b drops are nowhere to be seen.
func through(first, then *reader, all *builder) {
	put, kept := first.kind() == api.Put, then.kind() == api.Keep
	n := min(first.left(), then.left())
	text := first.take(n)
	then.take(n)
	switch {
	case put && kept:
		all.put(text)
	case kept:
		all.keep(n)
	case !put:
		all.drop(n)
	}
}
