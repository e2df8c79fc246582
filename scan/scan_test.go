package scan_test

import (
	"bytes"
	"fmt"
	"slices"
	"strings"
	"testing"
	"unicode/utf8"

	"galley/api"
	"galley/scan"
	"galley/step"
)

// row is one row of the document's list of encodings: for each byte the lowest and the highest that may stand there.
type row [][2]byte

var rows = []row{
	{{0x00, 0x7F}},
	{{0xC2, 0xDF}, {0x80, 0xBF}},
	{{0xE0, 0xE0}, {0xA0, 0xBF}, {0x80, 0xBF}},
	{{0xE1, 0xEC}, {0x80, 0xBF}, {0x80, 0xBF}},
	{{0xED, 0xED}, {0x80, 0x9F}, {0x80, 0xBF}},
	{{0xEE, 0xEF}, {0x80, 0xBF}, {0x80, 0xBF}},
	{{0xF0, 0xF0}, {0x90, 0xBF}, {0x80, 0xBF}, {0x80, 0xBF}},
	{{0xF1, 0xF3}, {0x80, 0xBF}, {0x80, 0xBF}, {0x80, 0xBF}},
	{{0xF4, 0xF4}, {0x80, 0x8F}, {0x80, 0xBF}, {0x80, 0xBF}},
}

// begun is the row whose encodings begin with these bytes and have more than they; nil: there is none.
func begun(b []byte) row {
	for _, r := range rows {
		fits := len(b) < len(r)
		for i := 0; fits && i < len(b); i++ {
			fits = r[i][0] <= b[i] && b[i] <= r[i][1]
		}
		if fits {
			return r
		}
	}
	return nil
}

// beginnings calls f with every beginning of an encoding that is not all of it, out of the list alone.
func beginnings(f func(b []byte, r row)) {
	for _, r := range rows {
		b := make([]byte, 0, 3)
		var fill func()
		fill = func() {
			if len(b) > 0 {
				f(b, r)
			}
			if len(b)+1 >= len(r) {
				return
			}
			may := r[len(b)]
			for x := int(may[0]); x <= int(may[1]); x++ {
				b = append(b, byte(x))
				fill()
				b = b[:len(b)-1]
			}
		}
		fill()
	}
}

// edgeBytes: the first and the last byte of each class, those beside the narrower second ones, and one from the midst of each.
var edgeBytes = []byte{
	0x00, 0x41, 0x7F, 0x80, 0x82, 0x8F, 0x90, 0x9F, 0xA0, 0xAC, 0xBF, 0xC0, 0xC1, 0xC2, 0xC3, 0xDF,
	0xE0, 0xE1, 0xE2, 0xEC, 0xED, 0xEE, 0xEF, 0xF0, 0xF1, 0xF3, 0xF4, 0xF5, 0xFE, 0xFF,
}

// fewBytes: those by which the states part, for longer texts.
var fewBytes = []byte{0x41, 0x80, 0x8F, 0x90, 0x9F, 0xA0, 0xBF, 0xC1, 0xC2, 0xE0, 0xE2, 0xED, 0xF0, 0xF1, 0xF4, 0xFF}

// stepsOf are the steps of a text, by the library alone.
func stepsOf(b []byte) []api.Step {
	var out []api.Step
	for len(b) > 0 {
		r, n := utf8.DecodeRune(b)
		out = append(out, api.Step{Rune: r, Width: n, Whole: r != utf8.RuneError || n > 1})
		b = b[n:]
	}
	return out
}

func whole(r rune, width int) api.Step { return api.Step{Rune: r, Width: width, Whole: true} }

func bad() api.Step { return api.Step{Rune: 0xFFFD, Width: 1} }

// model is a scanner by the document's words: it looks at the whole of what is held and fed.
type model struct {
	held  []byte
	place int
}

func (m *model) feed(b []byte) []api.Step {
	text := slices.Concat(m.held, b)
	cut := len(text)
	for n := 1; n <= min(3, len(text)); n++ {
		if begun(text[len(text)-n:]) != nil {
			cut = len(text) - n
		}
	}
	m.held = text[cut:]
	m.place += cut
	return stepsOf(text[:cut])
}

func (m *model) end() []api.Step {
	out := slices.Repeat([]api.Step{bad()}, len(m.held))
	m.place += len(m.held)
	m.held = nil
	return out
}

func (m *model) might() (lo, hi byte, ok bool) {
	if len(m.held) == 0 {
		return 0, 0, false
	}
	may := begun(m.held)[len(m.held)]
	return may[0], may[1], true
}

// pair is a scanner beside its model; done tells what was called.
type pair struct {
	t    *testing.T
	s    *scan.Scanner
	m    model
	done []string
}

func newPair(t *testing.T) *pair {
	p := &pair{t: t, s: scan.New()}
	p.look()
	return p
}

func (p *pair) fail(form string, args ...any) {
	p.t.Helper()
	p.t.Fatalf("%s: %s", strings.Join(p.done, ", "), fmt.Sprintf(form, args...))
}

// look holds all that a scanner tells of itself against its model, and that being asked changes nothing.
func (p *pair) look() {
	p.t.Helper()
	for range 2 {
		if got := p.s.Held(); got != len(p.m.held) {
			p.fail("Held is %d, want %d", got, len(p.m.held))
		}
		if got := p.s.Place(); got != p.m.place {
			p.fail("Place is %d, want %d", got, p.m.place)
		}
		lo, hi, ok := p.s.Might()
		if wantLo, wantHi, want := p.m.might(); lo != wantLo || hi != wantHi || ok != want {
			p.fail("Might is %x, %x, %v, want %x, %x, %v", lo, hi, ok, wantLo, wantHi, want)
		}
	}
}

func (p *pair) feed(b []byte) []api.Step {
	p.t.Helper()
	p.done = append(p.done, fmt.Sprintf("Feed(% x)", b))
	got, want := p.s.Feed(b), p.m.feed(b)
	if !slices.Equal(got, want) {
		p.fail("%v, want %v", got, want)
	}
	p.look()
	return got
}

func (p *pair) end() []api.Step {
	p.t.Helper()
	p.done = append(p.done, "End()")
	got, want := p.s.End(), p.m.end()
	if !slices.Equal(got, want) {
		p.fail("%v, want %v", got, want)
	}
	p.look()
	return got
}

// parted are the pieces of a text that is cut behind each byte whose bit is set.
func parted(b []byte, cuts int) [][]byte {
	var out [][]byte
	from := 0
	for i := 1; i < len(b); i++ {
		if cuts>>(i-1)&1 == 1 {
			out = append(out, b[from:i])
			from = i
		}
	}
	return append(out, b[from:])
}

// texts calls f with every text of n bytes out of some.
func texts(n int, some []byte, f func(b []byte)) {
	b := make([]byte, n)
	var fill func(i int)
	fill = func(i int) {
		if i == n {
			f(b)
			return
		}
		for _, x := range some {
			b[i] = x
			fill(i + 1)
		}
	}
	fill(0)
}

// mixed are n bytes out of some, the same each time, that follow no short rule.
func mixed(n int, seed uint32, some []byte) []byte {
	out := make([]byte, n)
	for i := range out {
		seed = seed*1664525 + 1013904223
		out[i] = some[int(seed>>16)%len(some)]
	}
	return out
}

func TestP4_1Examples(t *testing.T) {
	s := scan.New()
	if s == nil {
		t.Fatal("New is nil")
	}
	told := func(what string, got []api.Step, want ...api.Step) {
		t.Helper()
		if !slices.Equal(got, want) {
			t.Errorf("%s: %v, want %v", what, got, want)
		}
	}
	might := func(lo, hi byte, ok bool) {
		t.Helper()
		if a, b, is := s.Might(); a != lo || b != hi || is != ok {
			t.Errorf("Might is %x, %x, %v, want %x, %x, %v", a, b, is, lo, hi, ok)
		}
	}
	counts := func(held, place int) {
		t.Helper()
		if s.Held() != held || s.Place() != place {
			t.Errorf("Held, Place are %d, %d, want %d, %d", s.Held(), s.Place(), held, place)
		}
	}
	counts(0, 0)
	might(0, 0, false)
	told("41 E2", s.Feed([]byte{0x41, 0xE2}), whole(0x41, 1))
	counts(1, 1)
	might(0x80, 0xBF, true)
	told("82", s.Feed([]byte{0x82}))
	counts(2, 1)
	told("AC F0", s.Feed([]byte{0xAC, 0xF0}), whole(0x20AC, 3))
	might(0x90, 0xBF, true)
	told("9F 98", s.Feed([]byte{0x9F, 0x98}))
	counts(3, 4)
	told("41", s.Feed([]byte{0x41}), bad(), bad(), bad(), whole(0x41, 1))
	told("EF BF BD 80", s.Feed([]byte{0xEF, 0xBF, 0xBD, 0x80}), whole(0xFFFD, 3), bad())
	told("C2", s.Feed([]byte{0xC2}))
	told("End", s.End(), bad())
	told("80", s.Feed([]byte{0x80}), bad())
	counts(0, 14)
	told("nothing", s.Feed(nil))
	told("End", s.End())
	might(0, 0, false)
	counts(0, 14)
}

func TestP4_1OnePiece(t *testing.T) {
	cases := []struct {
		text string
		want []api.Step
		held int
	}{
		{"", nil, 0},
		{"abc", []api.Step{whole('a', 1), whole('b', 1), whole('c', 1)}, 0},
		{"\x00\x7f", []api.Step{whole(0, 1), whole(0x7F, 1)}, 0},
		{"ñ€😀", []api.Step{whole(0xF1, 2), whole(0x20AC, 3), whole(0x1F600, 4)}, 0},
		{"\xc2\x80\xdf\xbf", []api.Step{whole(0x80, 2), whole(0x7FF, 2)}, 0},
		{"\xe0\xa0\x80\xed\x9f\xbf\xee\x80\x80\xef\xbf\xbf", []api.Step{whole(0x800, 3), whole(0xD7FF, 3), whole(0xE000, 3), whole(0xFFFF, 3)}, 0},
		{"\xf0\x90\x80\x80\xf4\x8f\xbf\xbf", []api.Step{whole(0x10000, 4), whole(0x10FFFF, 4)}, 0},
		{"\uFFFD\xff", []api.Step{whole(0xFFFD, 3), bad()}, 0},
		{"a\xc3", []api.Step{whole('a', 1)}, 1},
		{"a\xe2", []api.Step{whole('a', 1)}, 1},
		{"a\xe2\x82", []api.Step{whole('a', 1)}, 2},
		{"a\xf0", []api.Step{whole('a', 1)}, 1},
		{"a\xf0\x9f", []api.Step{whole('a', 1)}, 2},
		{"a\xf0\x9f\x98", []api.Step{whole('a', 1)}, 3},
		{"\xed\xa0", []api.Step{bad(), bad()}, 0},
		{"\xed\xa0\x80", []api.Step{bad(), bad(), bad()}, 0},
		{"\xe0\x9f", []api.Step{bad(), bad()}, 0},
		{"\xf0\x8f", []api.Step{bad(), bad()}, 0},
		{"\xf4\x90", []api.Step{bad(), bad()}, 0},
		{"\xc0", []api.Step{bad()}, 0},
		{"\x82", []api.Step{bad()}, 0},
		{"\xc1\xf5\xff\x80", []api.Step{bad(), bad(), bad(), bad()}, 0},
		{"\xf0\x9f\xe2", []api.Step{bad(), bad()}, 1},
		{"\xe2\x82\xe2\x82", []api.Step{bad(), bad()}, 2},
		{"\xe2\x82\xf0\x9f\x98", []api.Step{bad(), bad()}, 3},
		{"\xf0\x9f\x98\xc3\xb1", []api.Step{bad(), bad(), bad(), whole(0xF1, 2)}, 0},
		{"\xc2\xc2\xc2", []api.Step{bad(), bad()}, 1},
	}
	for _, c := range cases {
		s := scan.New()
		if got := s.Feed([]byte(c.text)); !slices.Equal(got, c.want) {
			t.Errorf("Feed(% x) is %v, want %v", c.text, got, c.want)
		}
		if s.Held() != c.held || s.Place() != len(c.text)-c.held {
			t.Errorf("% x: Held, Place are %d, %d, want %d, %d", c.text, s.Held(), s.Place(), c.held, len(c.text)-c.held)
		}
		if got, want := s.End(), slices.Repeat([]api.Step{bad()}, c.held); !slices.Equal(got, want) {
			t.Errorf("% x: End is %v, want %v", c.text, got, want)
		}
		if s.Held() != 0 || s.Place() != len(c.text) {
			t.Errorf("% x: behind End Held, Place are %d, %d", c.text, s.Held(), s.Place())
		}
	}
}

func TestP4_1MightOfTheLeads(t *testing.T) {
	for x := range 256 {
		lead := byte(x)
		lo, hi, want := byte(0), byte(0), false
		if lead >= 0xC2 && lead <= 0xF4 {
			lo, hi, want = 0x80, 0xBF, true
		}
		switch lead {
		case 0xE0:
			lo = 0xA0
		case 0xED:
			hi = 0x9F
		case 0xF0:
			lo = 0x90
		case 0xF4:
			hi = 0x8F
		}
		s := scan.New()
		s.Feed([]byte{lead})
		if a, b, ok := s.Might(); a != lo || b != hi || ok != want {
			t.Errorf("behind %x Might is %x, %x, %v, want %x, %x, %v", lead, a, b, ok, lo, hi, want)
		}
	}
}

// Every beginning is parted at each of its places; behind it comes its end, a byte that breaks it off, or End.
func TestP4_1EveryBeginningParted(t *testing.T) {
	seen := [4]int{}
	beginnings(func(b []byte, r row) {
		seen[len(b)]++
		for cuts := range 1 << (len(b) - 1) {
			pieces := parted(b, cuts)
			hold := func() *scan.Scanner {
				s := scan.New()
				for i, piece := range pieces {
					if got := s.Feed(piece); len(got) != 0 || s.Place() != 0 || i == len(pieces)-1 && s.Held() != len(b) {
						t.Fatalf("% x: Feed(% x) tells %v, and Held is %d", b, piece, got, s.Held())
					}
				}
				return s
			}
			broken := slices.Repeat([]api.Step{bad()}, len(b))
			if got := hold().End(); !slices.Equal(got, broken) {
				t.Fatalf("% x: End is %v", b, got)
			}
			if got := hold().Feed([]byte{0x41}); !slices.Equal(got, append(broken, whole(0x41, 1))) {
				t.Fatalf("% x 41: %v", b, got)
			}
			if got := hold().Feed([]byte{0xFF}); !slices.Equal(got, append(broken, bad())) {
				t.Fatalf("% x ff: %v", b, got)
			}
			s := hold()
			if got := s.Feed([]byte{0xF4}); !slices.Equal(got, broken) || s.Held() != 1 {
				t.Fatalf("% x f4: %v, and Held is %d", b, got, s.Held())
			}
			ending := bytes.Clone(b)
			for i := len(b); i < len(r); i++ {
				ending = append(ending, r[i][1])
			}
			value, _ := utf8.DecodeRune(ending)
			if got := hold().Feed(ending[len(b):]); !slices.Equal(got, []api.Step{whole(value, len(r))}) {
				t.Fatalf("% x: %v", ending, got)
			}
		}
	})
	// Leads; the seconds behind 16 Lead3 and 5 Lead4; the thirds behind Lead4.
	if want := [4]int{0, 51, 16*64 - 64 + 5*64 - 64, (5*64 - 64) * 64}; seen != want {
		t.Errorf("this test saw %v, want %v", seen, want)
	}
}

// Each byte behind each beginning: what may stand there, and what breaks it off.
func TestP4_1EveryByteBehindEachBeginning(t *testing.T) {
	beginnings(func(b []byte, r row) {
		if len(b) == 3 && b[2] != 0x80 && b[2] != 0xBF {
			return
		}
		for x := range 256 {
			p := newPair(t)
			p.feed(b)
			lo, hi, ok := p.s.Might()
			may := r[len(b)]
			if fits := may[0] <= byte(x) && byte(x) <= may[1]; !ok || fits != (lo <= byte(x) && byte(x) <= hi) {
				t.Fatalf("% x: Might is %x, %x, %v", b, lo, hi, ok)
			}
			p.feed([]byte{byte(x)})
			p.end()
		}
	})
}

func TestP4_1BrokenOff(t *testing.T) {
	cases := []struct {
		held, next string
		want       []api.Step
		left       int
	}{
		{"\xc3", "A", []api.Step{bad(), whole('A', 1)}, 0},
		{"\xc3", "\xc3", []api.Step{bad()}, 1},
		{"\xc3", "\xc0", []api.Step{bad(), bad()}, 0},
		{"\xed", "\xa0", []api.Step{bad(), bad()}, 0},
		{"\xe0", "\x9f", []api.Step{bad(), bad()}, 0},
		{"\xf0", "\x8f", []api.Step{bad(), bad()}, 0},
		{"\xf4", "\x90", []api.Step{bad(), bad()}, 0},
		{"\xf4", "\xf4", []api.Step{bad()}, 1},
		{"\xe2\x82", "A", []api.Step{bad(), bad(), whole('A', 1)}, 0},
		{"\xe2\x82", "\xe2", []api.Step{bad(), bad()}, 1},
		{"\xe2\x82", "\xe2\x82", []api.Step{bad(), bad()}, 2},
		{"\xe2\x82", "\xe2\x82\xac", []api.Step{bad(), bad(), whole(0x20AC, 3)}, 0},
		{"\xf0\x9f", "\x7f", []api.Step{bad(), bad(), whole(0x7F, 1)}, 0},
		{"\xf0\x9f", "\xf0\x9f\x98", []api.Step{bad(), bad()}, 3},
		{"\xf0\x9f\x98", "\x00", []api.Step{bad(), bad(), bad(), whole(0, 1)}, 0},
		{"\xf0\x9f\x98", "\xff", []api.Step{bad(), bad(), bad(), bad()}, 0},
		{"\xf0\x9f\x98", "\xc3\xb1\xf0", []api.Step{bad(), bad(), bad(), whole(0xF1, 2)}, 1},
		{"\xf0\x9f\x98", "\x80\x80", []api.Step{whole(0x1F600, 4), bad()}, 0},
		{"\xe2\x82", "\xac\xac", []api.Step{whole(0x20AC, 3), bad()}, 0},
	}
	for _, c := range cases {
		s := scan.New()
		if got := s.Feed([]byte(c.held)); len(got) != 0 || s.Held() != len(c.held) {
			t.Errorf("Feed(% x) is %v, Held %d", c.held, got, s.Held())
		}
		if got := s.Feed([]byte(c.next)); !slices.Equal(got, c.want) || s.Held() != c.left {
			t.Errorf("% x, then Feed(% x): %v, Held %d; want %v, %d", c.held, c.next, got, s.Held(), c.want, c.left)
		}
	}
}

// Calls of every kind in many orders, each looked at behind.
func TestP4_1ManyOrders(t *testing.T) {
	for seed := range uint32(400) {
		p := newPair(t)
		b := mixed(60, seed, edgeBytes)
		for len(b) > 0 {
			n := min(int(seed+uint32(b[0]))%6, len(b))
			p.feed(b[:n])
			b = b[n:]
			if n == 0 {
				p.end()
				p.feed(b[:1])
				b = b[1:]
			}
		}
		p.end()
		p.end()
	}
}

// Pieces of no bytes change nothing, wherever they come.
func TestP4_1EmptyPieces(t *testing.T) {
	for _, text := range []string{"", "a", "\xc3", "\xe2\x82", "\xf0\x9f\x98", "\xff"} {
		p := newPair(t)
		p.feed(nil)
		p.feed([]byte{})
		p.feed([]byte(text))
		held, place := p.s.Held(), p.s.Place()
		for range 3 {
			for _, none := range [][]byte{nil, {}, make([]byte, 0, 8), []byte("\xac\x80")[:0]} {
				if got := p.feed(none); len(got) != 0 || p.s.Held() != held || p.s.Place() != place {
					t.Errorf("% x, then nothing: %v, %d, %d", text, got, p.s.Held(), p.s.Place())
				}
			}
		}
		p.end()
		p.feed(nil)
		p.end()
	}
}

// No step goes over an End.
func TestP4_1BehindEndAllBeginsAnew(t *testing.T) {
	for _, text := range []string{"ñ", "€", "😀", "\xed\x9f\xbf", "\xf4\x8f\xbf\xbf", "\uFFFD"} {
		b := []byte(text)
		for cut := 1; cut < len(b); cut++ {
			s := scan.New()
			if got := s.Feed(b[:cut]); len(got) != 0 {
				t.Errorf("% x: %v", b[:cut], got)
			}
			if got := s.End(); !slices.Equal(got, slices.Repeat([]api.Step{bad()}, cut)) || s.Held() != 0 || s.Place() != cut {
				t.Errorf("% x: End is %v, Held %d, Place %d", b[:cut], got, s.Held(), s.Place())
			}
			if lo, hi, ok := s.Might(); lo != 0 || hi != 0 || ok {
				t.Errorf("% x: behind End Might is %x, %x, %v", b[:cut], lo, hi, ok)
			}
			if got := s.End(); len(got) != 0 || s.Place() != cut {
				t.Errorf("% x: End once more is %v", b[:cut], got)
			}
			if got := s.Feed(b[cut:]); !slices.Equal(got, slices.Repeat([]api.Step{bad()}, len(b)-cut)) || s.Place() != len(b) {
				t.Errorf("% x, End, % x: %v, Place %d", b[:cut], b[cut:], got, s.Place())
			}
			want := stepsOf(b)
			if got := s.Feed(b); !slices.Equal(got, want) || s.Place() != 2*len(b) {
				t.Errorf("% x anew: %v, want %v", b, got, want)
			}
		}
	}
}

func TestP4_1Nil(t *testing.T) {
	var s *scan.Scanner
	look := func(what string) {
		lo, hi, ok := s.Might()
		if s.Held() != 0 || s.Place() != 0 || lo != 0 || hi != 0 || ok {
			t.Errorf("behind %s: %d, %d; %x, %x, %v", what, s.Held(), s.Place(), lo, hi, ok)
		}
	}
	look("nothing")
	for _, text := range []string{"", "a", "€", "\xe2", "\x82\xac", "\xf0\x9f\x98", "\xff"} {
		if got := s.Feed([]byte(text)); len(got) != 0 {
			t.Errorf("Feed(% x) is %v", text, got)
		}
		look("Feed")
		if got := s.End(); len(got) != 0 {
			t.Errorf("End is %v", got)
		}
		look("End")
	}
	if got := s.Feed(nil); len(got) != 0 {
		t.Errorf("Feed(nil) is %v", got)
	}
}

// What one scanner holds and tells is nothing to another one.
func TestP4_1TwoScanners(t *testing.T) {
	one, two := newPair(t), newPair(t)
	if one.s == two.s {
		t.Fatal("New answers one scanner twice")
	}
	texts(2, fewBytes, func(b []byte) {
		one.feed(b[:1])
		two.look()
		two.feed(b[1:])
		one.look()
		if b[0] == 0xF4 && b[1] == 0xE0 {
			one.end()
			two.look()
		}
	})
	one.end()
	two.look()
	two.end()

	// What was fed the same tells the same.
	three, four := scan.New(), scan.New()
	for _, piece := range parted(mixed(200, 7, edgeBytes), 0x5A5A5A5A5A5A) {
		if a, b := three.Feed(piece), four.Feed(piece); !slices.Equal(a, b) || three.Held() != four.Held() || three.Place() != four.Place() {
			t.Fatalf("% x: %v, and %v", piece, a, b)
		}
	}
}

// allOf are the steps that layer 2 tells.
func allOf(b []byte) []api.Step {
	var out []api.Step
	for _, s := range step.All(b) {
		out = append(out, s)
	}
	return out
}

// tellAll are the steps that are told for the pieces, then by End.
func tellAll(pieces [][]byte) []api.Step {
	s := scan.New()
	var out []api.Step
	for _, piece := range pieces {
		out = append(out, s.Feed(piece)...)
	}
	return append(out, s.End()...)
}

// checkPieces holds all ways to part these bytes against the steps of all of them.
func checkPieces(t *testing.T, b []byte) {
	want := allOf(b)
	for cuts := range 1 << max(0, len(b)-1) {
		if got := tellAll(parted(b, cuts)); !slices.Equal(got, want) {
			t.Fatalf("% x, parted by %b: %v, want %v", b, cuts, got, want)
		}
	}
}

func TestP4_2EveryPartingOfShortTexts(t *testing.T) {
	for n := range 4 {
		texts(n, edgeBytes, func(b []byte) { checkPieces(t, b) })
	}
	texts(4, fewBytes, func(b []byte) { checkPieces(t, b) })
	texts(5, []byte{0x41, 0x80, 0x9F, 0xC2, 0xE2, 0xED, 0xF0, 0xF4}, func(b []byte) { checkPieces(t, b) })
}

func TestP4_2EveryPartingOfSomeTexts(t *testing.T) {
	for _, text := range []string{
		"añ€😀b", "\xf0\x9f\x98\xf0\x9f\x98\x80\xf0", "\xe2\x82\xe2\x82\xac\xe2\x82", "\xed\xa0\x80\xed\xb0\x80",
		"\uFFFD\xff\uFFFD", "\r\n\xc3\r\xb1\n", "\xf4\x8f\xbf\xbf\xf4\x90\x80\x80", "\xc3\xc3\xb1\xb1\xc2\x80",
	} {
		checkPieces(t, []byte(text))
	}
}

func TestP4_2EveryRuneByteByByte(t *testing.T) {
	s := scan.New()
	fed := 0
	for r := rune(0); r <= 0x10FFFF; r++ {
		if !utf8.ValidRune(r) {
			continue
		}
		b := []byte(string(r))
		for i := range b {
			got := s.Feed(b[i : i+1])
			if i < len(b)-1 && (len(got) != 0 || s.Held() != i+1) {
				t.Fatalf("%x: % x tells %v, and Held is %d", r, b[:i+1], got, s.Held())
			}
			if i == len(b)-1 && !slices.Equal(got, []api.Step{whole(r, len(b))}) {
				t.Fatalf("%x: %v", r, got)
			}
		}
		if fed += len(b); s.Place() != fed || s.Held() != 0 {
			t.Fatalf("%x: Place, Held are %d, %d, want %d, 0", r, s.Place(), s.Held(), fed)
		}
	}
}

func TestP4_2LongTexts(t *testing.T) {
	for seed := range uint32(4) {
		b := mixed(50000, seed, edgeBytes)
		copy(b[1000:], strings.Repeat("a€😀ñ\xe2\x82", 500))
		want := allOf(b)
		for _, n := range []int{1, 2, 3, 4, 5, 7, 4096, len(b)} {
			if got := tellAll(slices.Collect(slices.Chunk(b, n))); !slices.Equal(got, want) {
				t.Errorf("in pieces of %d: not the steps", n)
			}
		}
	}
}

// Place and Held together are what was fed; Held is at most 3.
func TestP4_3PlaceAndHeld(t *testing.T) {
	for seed := range uint32(50) {
		s := scan.New()
		fed, told := 0, 0
		count := func(steps []api.Step) {
			for _, x := range steps {
				told += x.Width
			}
			if s.Held() < 0 || s.Held() > 3 || s.Place() != told || s.Place()+s.Held() != fed {
				t.Fatalf("%d bytes were fed, %d told: Place, Held are %d, %d", fed, told, s.Place(), s.Held())
			}
		}
		b := mixed(300, seed, fewBytes)
		for i := 0; len(b) > 0; i++ {
			n := min(i%5, len(b))
			fed += n
			count(s.Feed(b[:n]))
			b = b[n:]
			if i%11 == 10 {
				count(s.End())
			}
		}
		count(s.End())
		if s.Held() != 0 || s.Place() != 300 {
			t.Errorf("Held, Place are %d, %d", s.Held(), s.Place())
		}
	}
}

// What is held may still become a whole step, and may still become a bad one; so none is told too late.
func TestP4_3HeldIsUncertain(t *testing.T) {
	fed := func(b []byte) *scan.Scanner {
		s := scan.New()
		s.Feed(b)
		return s
	}
	check := func(b []byte) {
		held := fed(b).Held()
		if held == 0 {
			return
		}
		s := fed(b)
		var first []api.Step
		for len(first) == 0 {
			lo, _, ok := s.Might()
			if !ok {
				t.Fatalf("% x: nothing may stand behind it", b)
			}
			first = s.Feed([]byte{lo})
		}
		if len(first) != 1 || !first[0].Whole || first[0].Width <= held {
			t.Fatalf("% x: with what may stand behind it %v is told", b, first)
		}
		if first = fed(b).Feed([]byte{0x41}); first[0] != bad() {
			t.Fatalf("% x: with 41 behind it %v is told", b, first)
		}
	}
	for n := range 4 {
		texts(n, edgeBytes, check)
	}
	texts(4, fewBytes, check)
}

// What is told is what it is whatever comes behind it; so none is told too early.
func TestP4_3ToldIsCertain(t *testing.T) {
	texts(3, fewBytes, func(b []byte) {
		s := scan.New()
		told := s.Feed(b)
		for _, x := range edgeBytes {
			for _, more := range [][]byte{{x}, {0x80, x}, {0x80, 0x80, x}} {
				all := allOf(slices.Concat(b, more))
				if len(all) < len(told) || !slices.Equal(all[:len(told)], told) {
					t.Fatalf("% x tells %v, but with % x behind it %v", b, told, more, all)
				}
			}
		}
	})
}

// spoil overwrites a list with all its spare room.
func spoil[T any](list []T, with T) {
	list = list[:cap(list)]
	for i := range list {
		list[i] = with
	}
}

// What is handed in stays, what lies around it in the same memory too, also behind later calls.
func TestP4_4BytesStay(t *testing.T) {
	room := []byte("<\xe2\x82\xac\xf0\x9f\x98\x80\xe2\x82\xac\x80\xed\xa0\xf4>")
	kept := bytes.Clone(room)
	for lo := range room {
		for hi := lo; hi <= len(room); hi++ {
			p := newPair(t)
			p.feed(room[lo:hi])
			p.feed([]byte{0x80})
			p.feed([]byte{0xBF, 0xE2})
			p.end()
		}
	}
	if !bytes.Equal(room, kept) {
		t.Errorf("the bytes were % x, and are % x", kept, room)
	}
}

// What lies behind the bytes in the same memory is none of them.
func TestP4_4SpareRoomIsNotRead(t *testing.T) {
	room := []byte("\xf0\x9f\x98\x80")
	for n := range 4 {
		p := newPair(t)
		p.feed(room[:n])
		p.feed([]byte{0x41})
		p.end()
	}
}

// The bytes may be written over as soon as the call is done.
func TestP4_4BytesAreNotKept(t *testing.T) {
	for seed := range uint32(20) {
		p := newPair(t)
		b := mixed(400, seed, fewBytes)
		hand := make([]byte, 4, 8)
		for len(b) > 0 {
			n := min(len(hand), 1+len(b)%4, len(b))
			copy(hand, b[:n])
			p.feed(hand[:n])
			spoil(hand, 0x41)
			p.look()
			b = b[n:]
		}
		p.end()
	}
}

// Lists that are answered may be written over, and stay when more is told.
func TestP4_4AnswersAreNewMemory(t *testing.T) {
	other := api.Step{Rune: 0x77, Width: 7, Whole: true}
	p := newPair(t)
	var lists, copies [][]api.Step
	for i, piece := range slices.Collect(slices.Chunk(mixed(300, 3, fewBytes), 3)) {
		list := p.feed(piece)
		if i%4 == 3 {
			lists, copies = append(lists, list), append(copies, slices.Clone(list))
			list = p.end()
		}
		if i%3 == 2 {
			spoil(list, other)
			p.look()
			continue
		}
		lists, copies = append(lists, list), append(copies, slices.Clone(list))
	}
	for i, list := range lists {
		if !slices.Equal(list, copies[i]) {
			t.Fatalf("list %d was %v, and is %v", i, copies[i], list)
		}
	}
	for i, list := range lists {
		spoil(list, other)
		for j := i + 1; j < len(lists); j++ {
			if !slices.Equal(lists[j], copies[j]) {
				t.Fatalf("lists %d and %d share memory", i, j)
			}
		}
	}
}

// Two scanners that were fed the same answer lists of their own.
func TestP4_4AnswersOfTwoScanners(t *testing.T) {
	one, two := scan.New(), scan.New()
	for _, piece := range []string{"a€", "\xe2\x82", "\xff\xff", "😀\xf0\x9f\x98"} {
		a, b := one.Feed([]byte(piece)), two.Feed([]byte(piece))
		want := slices.Clone(b)
		spoil(a, api.Step{})
		if !slices.Equal(b, want) {
			t.Errorf("% x: %v, want %v", piece, b, want)
		}
	}
	a, b := one.End(), two.End()
	spoil(a, api.Step{})
	if !slices.Equal(b, []api.Step{bad(), bad(), bad()}) {
		t.Errorf("End: %v", b)
	}
}
