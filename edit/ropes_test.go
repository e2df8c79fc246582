package edit_test

import (
	"bytes"
	"fmt"
	"math/rand"
	"slices"
	"testing"

	"galley/api"
	"galley/rope"
)

// leastBytes: the line ends, and bytes out of which encodings of each length can be made.
var leastBytes = []byte{0x0A, 0x0D, 0x41, 0x90, 0xC2, 0xE2, 0xF0}

// badBytes make no encoding, however they stand.
var badBytes = []byte{0x80, 0x90, 0xBF, 0xC0, 0xC1, 0xF5, 0xFE, 0xFF}

// pieces are steps and parts of steps of each kind.
var pieces = []string{
	"a", "\r", "\n", "\r\n", "\n\r", "\u00e9", "\u20ac", "\ufffd", "\U0001F600", "\U0010FFFF",
	"\xc3", "\xe2", "\xe2\x82", "\xf0", "\xf0\x9f", "\xf0\x9f\x98", "\x80", "\x98\x80", "\x9f\x98\x80", "\xac", "\x82\xac", "\xff",
	"\xed\xa0\x80", "\xc0\x80", "\xe0\x80\x80", "\xf4\x90\x80\x80",
}

// mixed is a text of n bytes out of some.
func mixed(n int, seed int64, some []byte) []byte {
	rng := rand.New(rand.NewSource(seed))
	b := make([]byte, n)
	for i := range b {
		b[i] = some[rng.Intn(len(some))]
	}
	return b
}

// steps is a text of n bytes out of pieces of all kinds, cut at its end.
func steps(n int, seed int64) []byte {
	rng := rand.New(rand.NewSource(seed))
	var b []byte
	for len(b) < n {
		b = append(b, pieces[rng.Intn(len(pieces))]...)
	}
	return b[:n:n]
}

// texts calls f with every text of n bytes out of some.
func texts(n int, some []byte, f func(b []byte)) {
	b := make([]byte, n)
	var fill func(i int)
	fill = func(i int) {
		if i == n {
			f(b)
			return
		}
		for _, x := range some {
			b[i] = x
			fill(i + 1)
		}
	}
	fill(0)
}

// fewTexts calls f with short texts, of no byte on.
func fewTexts(f func(b []byte)) {
	for n := range 5 {
		texts(n, leastBytes, f)
	}
	for _, one := range pieces {
		for _, other := range pieces {
			f([]byte(one + other + one))
		}
	}
}

// longTexts calls f with texts of one leaf, directly below, at and above a leaf's size, and of several leaves: of all kinds of steps, of bad bytes alone, and with an encoding or a CR LF over each place where leaves may meet.
func longTexts(f func(name string, b []byte)) {
	for _, n := range []int{1023, 1024, 1025, 4095, 4096, 4097, 4100, 8191, 8192, 8193, 10000} {
		f(fmt.Sprint("steps ", n), steps(n, int64(n)))
		f(fmt.Sprint("mixed ", n), mixed(n, int64(n), leastBytes))
	}
	f("bad bytes", mixed(9000, 1, badBytes))
	f("tails alone", bytes.Repeat([]byte{0x80}, 8200))
	f("leads alone", bytes.Repeat([]byte{0xF0}, 8200))
	for ahead := range 4 {
		f(fmt.Sprint("faces behind ", ahead), slices.Concat(bytes.Repeat([]byte("x"), ahead), bytes.Repeat([]byte("\U0001F600"), 2100)))
		f(fmt.Sprint("euros behind ", ahead), slices.Concat(bytes.Repeat([]byte("x"), ahead), bytes.Repeat([]byte("\u20ac"), 2800)))
		f(fmt.Sprint("line ends behind ", ahead), slices.Concat(bytes.Repeat([]byte("x"), ahead), bytes.Repeat([]byte("\r\n"), 4200)))
	}
}

// manyPlaces are places of a text of n bytes: all, if it is short; else those at its ends and around the sizes at which leaves may meet, and some others.
func manyPlaces(n int) []int {
	var places []int
	if n <= 64 {
		for p := range n + 1 {
			places = append(places, p)
		}
		return places
	}
	for _, base := range []int{0, 512, 1024, 2048, 4096, 8192, n / 2, n} {
		for p := base - 3; p <= base+3; p++ {
			if p >= 0 && p <= n {
				places = append(places, p)
			}
		}
	}
	for p := 7; p < n; p += n/11 + 1 {
		places = append(places, p)
	}
	slices.Sort(places)
	return slices.Compact(places)
}

// made is the rope of bytes that are few enough.
func made(t testing.TB, b []byte) *rope.Rope {
	t.Helper()
	r, err := rope.New(b)
	if r == nil || err != api.OK {
		t.Fatalf("New of %d bytes: %v, %d", len(b), r, err)
	}
	return r
}

func join(t testing.TB, a, b *rope.Rope) *rope.Rope {
	t.Helper()
	r, err := rope.Join(a, b)
	if r == nil || err != api.OK {
		t.Fatalf("Join of %d bytes and %d: %v, %d", a.Len(), b.Len(), r, err)
	}
	return r
}

func split(t testing.TB, r *rope.Rope, n int) (*rope.Rope, *rope.Rope) {
	t.Helper()
	a, b, err := r.Split(n)
	if a == nil || b == nil || err != api.OK {
		t.Fatalf("Split(%d) of %d bytes: %v, %v, %d", n, r.Len(), a, b, err)
	}
	return a, b
}

func replace(t testing.TB, r *rope.Rope, lo, hi int, text []byte) *rope.Rope {
	t.Helper()
	s, err := r.Replace(lo, hi, text)
	if s == nil || err != api.OK {
		t.Fatalf("Replace(%d, %d, %d bytes) of %d bytes: %v, %d", lo, hi, len(text), r.Len(), s, err)
	}
	return s
}

// textOf is all bytes of a rope.
func textOf(t testing.TB, r *rope.Rope) []byte {
	t.Helper()
	b, err := r.Bytes(0, r.Len())
	if err != api.OK {
		t.Fatalf("Bytes(0, %d): %d", r.Len(), err)
	}
	return b
}

// short tells long bytes by their beginning and their number.
func short(b []byte) string {
	return fmt.Sprintf("% x (%d bytes)", b[:min(len(b), 40)], len(b))
}

// A way makes a rope of bytes.
type way struct {
	name string
	make func(t testing.TB, b []byte) *rope.Rope
}

// ways are unlike makes of ropes with the same bytes.
var ways = []way{
	{"New", func(t testing.TB, b []byte) *rope.Rope { return made(t, b) }},
	{"joined of halves", func(t testing.TB, b []byte) *rope.Rope {
		return join(t, made(t, b[:len(b)/2]), made(t, b[len(b)/2:]))
	}},
	{"byte by byte at the end", func(t testing.TB, b []byte) *rope.Rope {
		r := made(t, nil)
		for i := range b {
			r = join(t, r, made(t, b[i:i+1]))
		}
		return r
	}},
	{"byte by byte at the beginning", func(t testing.TB, b []byte) *rope.Rope {
		r := made(t, nil)
		for i := len(b); i > 0; i-- {
			r = replace(t, r, 0, 0, b[i-1:i])
		}
		return r
	}},
	{"byte by byte in the middle", func(t testing.TB, b []byte) *rope.Rope {
		r := made(t, nil)
		lo, hi := len(b)/2, len(b)/2
		for lo > 0 || hi < len(b) {
			if hi < len(b) {
				hi++
				r = replace(t, r, r.Len(), r.Len(), b[hi-1:hi])
			}
			if lo > 0 {
				lo--
				r = join(t, made(t, b[lo:lo+1]), r)
			}
		}
		return r
	}},
	{"in pieces of unlike sizes", func(t testing.TB, b []byte) *rope.Rope {
		r := made(t, nil)
		for n := 1; len(b) > 0; n = n*7%2003 + 1 {
			k := min(n, len(b))
			r = join(t, r, made(t, b[:k]))
			b = b[k:]
		}
		return r
	}},
	{"in pieces, from the last on", func(t testing.TB, b []byte) *rope.Rope {
		r := made(t, nil)
		for n := 900; len(b) > 0; n = n*5%3001 + 1 {
			k := max(0, len(b)-n)
			r = join(t, made(t, b[k:]), r)
			b = b[:k]
		}
		return r
	}},
	{"split out of a longer one", func(t testing.TB, b []byte) *rope.Rope {
		r := made(t, slices.Concat([]byte("\xf0\x9f"), steps(3000, 5), b, steps(5000, 6)))
		_, r = split(t, r, 3002)
		r, _ = split(t, r, len(b))
		return r
	}},
	{"dropped out of a longer one", func(t testing.TB, b []byte) *rope.Rope {
		k := len(b) / 3
		r := made(t, slices.Concat(b[:k], mixed(6000, 7, leastBytes), b[k:]))
		return replace(t, r, k, k+6000, nil)
	}},
	{"put into others", func(t testing.TB, b []byte) *rope.Rope {
		k, l := len(b)/3, len(b)*2/3
		r := made(t, slices.Concat(b[:k], []byte("\r\xe2\x82"), b[l:]))
		return replace(t, r, k, k+3, b[k:l])
	}},
	{"cut and joined again", func(t testing.TB, b []byte) *rope.Rope {
		r := made(t, b)
		for _, n := range manyPlaces(len(b)) {
			first, others := split(t, r, n)
			r = join(t, first, others)
		}
		return r
	}},
}

// scripts are ropes that come out of a long row of calls, each with the bytes that it must have.
type scripts struct {
	ropes []*rope.Rope
	texts [][]byte
}

func (s *scripts) add(r *rope.Rope, b []byte) {
	s.ropes = append(s.ropes, r)
	s.texts = append(s.texts, b)
}

// call does one call, chosen by chance, with ropes that are there, and adds what it answers.
func (s *scripts) call(t testing.TB, rng *rand.Rand, most int) {
	t.Helper()
	i, j := rng.Intn(len(s.ropes)), rng.Intn(len(s.ropes))
	a, b, x, y := s.ropes[i], s.ropes[j], s.texts[i], s.texts[j]
	lo := rng.Intn(len(x) + 1)
	switch rng.Intn(5) {
	case 0:
		if len(x)+len(y) <= most {
			s.add(join(t, a, b), slices.Concat(x, y))
		}
	case 1:
		first, others := split(t, a, lo)
		s.add(first, x[:lo])
		s.add(others, x[lo:])
	case 2:
		hi := lo + rng.Intn(len(x)-lo+1)
		s.add(replace(t, a, lo, hi, nil), slices.Concat(x[:lo], x[hi:]))
	default:
		hi := min(len(x), lo+rng.Intn(4))
		text := steps(rng.Intn(6)*rng.Intn(40)*rng.Intn(40), rng.Int63())
		if len(x)+len(text) <= most {
			s.add(replace(t, a, lo, hi, text), slices.Concat(x[:lo], text, x[hi:]))
		}
	}
}

// doubled is a text put behind itself so often: a great one that has few nodes.
func doubled(t testing.TB, b []byte, times int) *rope.Rope {
	t.Helper()
	r := made(t, b)
	for range times {
		r = join(t, r, r)
	}
	return r
}
