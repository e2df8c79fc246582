package octet_test

import (
	"bytes"
	"math"
	"slices"
	"testing"

	"galley/api"
	"galley/octet"
)

// span is one row of the document's list of encodings: for each byte the lowest and the highest that may stand there.
type span [][2]byte

var spans = []span{
	{{0x00, 0x7F}},
	{{0xC2, 0xDF}, {0x80, 0xBF}},
	{{0xE0, 0xE0}, {0xA0, 0xBF}, {0x80, 0xBF}},
	{{0xE1, 0xEC}, {0x80, 0xBF}, {0x80, 0xBF}},
	{{0xED, 0xED}, {0x80, 0x9F}, {0x80, 0xBF}},
	{{0xEE, 0xEF}, {0x80, 0xBF}, {0x80, 0xBF}},
	{{0xF0, 0xF0}, {0x90, 0xBF}, {0x80, 0xBF}, {0x80, 0xBF}},
	{{0xF1, 0xF3}, {0x80, 0xBF}, {0x80, 0xBF}, {0x80, 0xBF}},
	{{0xF4, 0xF4}, {0x80, 0x8F}, {0x80, 0xBF}, {0x80, 0xBF}},
}

// fits tells whether the bytes stand within the row's first ones.
func (s span) fits(b []byte) bool {
	if len(b) > len(s) {
		return false
	}
	for i, x := range b {
		if x < s[i][0] || x > s[i][1] {
			return false
		}
	}
	return true
}

// listed tells whether the document's list has these bytes as one encoding.
func listed(b []byte) bool {
	for _, s := range spans {
		if len(s) == len(b) && s.fits(b) {
			return true
		}
	}
	return false
}

// begins tells how long the encodings are that begin with these bytes; 0: none does.
func begins(b ...byte) int {
	for _, s := range spans {
		if s.fits(b) {
			return len(s)
		}
	}
	return 0
}

// number is the rune by the document's formula.
func number(b []byte) rune {
	switch len(b) {
	case 1:
		return rune(b[0])
	case 2:
		return rune(b[0])%32*64 + rune(b[1])%64
	case 3:
		return rune(b[0])%16*4096 + rune(b[1])%64*64 + rune(b[2])%64
	}
	return rune(b[0])%8*262144 + rune(b[1])%64*4096 + rune(b[2])%64*64 + rune(b[3])%64
}

// runes calls f with every rune and its encoding, out of the document's list alone: all bytes of all rows, in their order.
func runes(f func(r rune, b []byte)) {
	for _, s := range spans {
		b := make([]byte, len(s))
		var fill func(i int)
		fill = func(i int) {
			if i == len(s) {
				f(number(b), b)
				return
			}
			for x := int(s[i][0]); x <= int(s[i][1]); x++ {
				b[i] = byte(x)
				fill(i + 1)
			}
		}
		fill(0)
	}
}

// edgeBytes: the first and the last byte of each class, those beside the narrower second ones, and one from the midst of each.
var edgeBytes = []byte{
	0x00, 0x41, 0x7F, 0x80, 0x82, 0x8F, 0x90, 0x9F, 0xA0, 0xAC, 0xBF, 0xC0, 0xC1, 0xC2, 0xC3, 0xDF,
	0xE0, 0xE1, 0xE2, 0xEC, 0xED, 0xEE, 0xEF, 0xF0, 0xF1, 0xF3, 0xF4, 0xF5, 0xFE, 0xFF,
}

func TestP1_1Class(t *testing.T) {
	rows := []struct {
		first, last int
		class       api.Class
		number      int
		need        int
	}{
		{0x00, 0x7F, api.Plain, 1, 1},
		{0x80, 0xBF, api.Tail, 2, 0},
		{0xC0, 0xC1, api.Never, 6, 0},
		{0xC2, 0xDF, api.Lead2, 3, 2},
		{0xE0, 0xEF, api.Lead3, 4, 3},
		{0xF0, 0xF4, api.Lead4, 5, 4},
		{0xF5, 0xFF, api.Never, 6, 0},
	}
	next := 0
	for _, row := range rows {
		if row.first != next {
			t.Fatalf("the rows of this test leave out %x", next)
		}
		next = row.last + 1
		for x := row.first; x <= row.last; x++ {
			b := byte(x)
			if got := octet.Class(b); got != row.class || int(got) != row.number {
				t.Errorf("Class(%x) is %d, want %d", b, got, row.class)
			}
			if got := octet.Need(b); got != row.need || got != begins(b) {
				t.Errorf("Need(%x) is %d, want %d", b, got, row.need)
			}
		}
	}
	if next != 256 {
		t.Fatalf("the rows of this test end ahead of %x", next)
	}
}

func TestP1_1Second(t *testing.T) {
	taken := 0
	for x := range 256 {
		for y := range 256 {
			lead, b := byte(x), byte(y)
			want := begins(lead, b) > 0
			if got := octet.Second(lead, b); got != want {
				t.Errorf("Second(%x, %x) is %v, want %v", lead, b, got, want)
			}
			if want {
				taken++
			}
		}
	}
	// 30 Lead2, 16 Lead3 and 5 Lead4 with 64 Tails each, but for the 32, 32, 16 and 48 that E0, ED, F0 and F4 refuse.
	if want := 51*64 - 32 - 32 - 16 - 48; taken != want {
		t.Errorf("%d pairs are taken, want %d", taken, want)
	}
}

func TestP1_1SecondEdges(t *testing.T) {
	rows := []struct {
		lead, b byte
		want    bool
	}{
		{0xE0, 0x80, false}, {0xE0, 0x9F, false}, {0xE0, 0xA0, true}, {0xE0, 0xBF, true}, {0xE0, 0xC0, false},
		{0xED, 0x7F, false}, {0xED, 0x80, true}, {0xED, 0x9F, true}, {0xED, 0xA0, false}, {0xED, 0xBF, false},
		{0xF0, 0x80, false}, {0xF0, 0x8F, false}, {0xF0, 0x90, true}, {0xF0, 0xBF, true}, {0xF0, 0xC0, false},
		{0xF4, 0x7F, false}, {0xF4, 0x80, true}, {0xF4, 0x8F, true}, {0xF4, 0x90, false}, {0xF4, 0xBF, false},
		{0xC2, 0x80, true}, {0xC2, 0x41, false}, {0xE1, 0x80, true}, {0xEE, 0xBF, true}, {0xF1, 0x80, true}, {0xF3, 0xBF, true},
		{0x41, 0x82, false}, {0x7F, 0x80, false}, {0x82, 0x82, false}, {0xC0, 0x80, false}, {0xC1, 0xBF, false}, {0xF5, 0x80, false}, {0xFF, 0xBF, false},
	}
	for _, row := range rows {
		if got := octet.Second(row.lead, row.b); got != row.want {
			t.Errorf("Second(%x, %x) is %v, want %v", row.lead, row.b, got, row.want)
		}
	}
}

// checkBytes holds Whole and Value of these bytes against the document's list and formula.
func checkBytes(t *testing.T, b []byte) {
	want := rune(-1)
	if listed(b) {
		want = number(b)
	}
	if got := octet.Whole(b); got != (want >= 0) {
		t.Fatalf("Whole(%x) is %v", b, got)
	}
	if got := octet.Value(b); got != want {
		t.Fatalf("Value(%x) is %x, want %x", b, got, want)
	}
}

func TestP1_1WholeAndValueOfShortBytes(t *testing.T) {
	checkBytes(t, nil)
	checkBytes(t, []byte{})
	b := make([]byte, 3)
	for x := range 256 {
		b[0] = byte(x)
		checkBytes(t, b[:1])
		for y := range 256 {
			b[1] = byte(y)
			checkBytes(t, b[:2])
			for _, z := range edgeBytes {
				b[2] = z
				checkBytes(t, b)
			}
		}
	}
}

func TestP1_1WholeAndValueOfEdges(t *testing.T) {
	for n := 1; n <= 5; n++ {
		b := make([]byte, n)
		var fill func(i int)
		fill = func(i int) {
			if i == n {
				checkBytes(t, b)
				return
			}
			for _, x := range edgeBytes {
				// Behind the fourth byte all are too many: three are enough there.
				if i == 4 && x != 0x41 && x != 0x80 && x != 0xFF {
					continue
				}
				b[i] = x
				fill(i + 1)
			}
		}
		fill(0)
	}
}

func TestP1_1WholeAndValueByExample(t *testing.T) {
	rows := []struct {
		text string
		want rune
	}{
		{"\x00", 0}, {"A", 0x41}, {"\x7F", 0x7F}, {"\xC2\x80", 0x80}, {"\xDF\xBF", 0x7FF}, {"\xE0\xA0\x80", 0x800},
		{"\xE2\x82\xAC", 0x20AC}, {"\xED\x9F\xBF", 0xD7FF}, {"\xEE\x80\x80", 0xE000}, {"\xEF\xBF\xBD", 0xFFFD},
		{"\xEF\xBF\xBF", 0xFFFF}, {"\xF0\x90\x80\x80", 0x10000}, {"\xF0\x9F\x98\x80", 0x1F600}, {"\xF4\x8F\xBF\xBF", 0x10FFFF},
		{"", -1}, {"\x82", -1}, {"\xFF", -1}, {"\xC2", -1}, {"\xE2\x82", -1}, {"\xF0\x9F\x98", -1},
		{"AB", -1}, {"\xE2\x82\xACA", -1}, {"\xE2\x82\xAC\x80", -1}, {"A\xE2\x82\xAC", -1}, {"\xF0\x9F\x98\x80\x80", -1},
		{"\xC0\x80", -1}, {"\xC1\xBF", -1}, {"\xE0\x80\x80", -1}, {"\xE0\x9F\xBF", -1}, {"\xED\xA0\x80", -1}, {"\xED\xBF\xBF", -1},
		{"\xF0\x80\x80\x80", -1}, {"\xF0\x8F\xBF\xBF", -1}, {"\xF4\x90\x80\x80", -1}, {"\xF5\x80\x80\x80", -1},
		{"\xE2A\xAC", -1}, {"\xE2\x82A", -1}, {"\xF0\x9FA\x80", -1}, {"\xF0\x9F\x98A", -1}, {"\xF8\x88\x80\x80\x80", -1},
	}
	for _, row := range rows {
		if got := octet.Value([]byte(row.text)); got != row.want {
			t.Errorf("Value(%x) is %x, want %x", row.text, got, row.want)
		}
		if got := octet.Whole([]byte(row.text)); got != (row.want >= 0) {
			t.Errorf("Whole(%x) is %v", row.text, got)
		}
	}
}

// P1: no call panics, however many bytes it is given.
func TestP1_1ManyBytes(t *testing.T) {
	for _, x := range edgeBytes {
		b := bytes.Repeat([]byte{x}, 1<<16)
		if octet.Whole(b) || octet.Value(b) != -1 {
			t.Errorf("%d times %x: they are no encoding", len(b), x)
		}
	}
}

func TestP1_1Bytes(t *testing.T) {
	rows := []struct {
		r    rune
		want string
	}{
		{0, "\x00"}, {0x41, "A"}, {0x7F, "\x7F"}, {0x80, "\xC2\x80"}, {0x7FF, "\xDF\xBF"}, {0x800, "\xE0\xA0\x80"},
		{0x20AC, "\xE2\x82\xAC"}, {0xD7FF, "\xED\x9F\xBF"}, {0xE000, "\xEE\x80\x80"}, {0xFFFD, "\xEF\xBF\xBD"},
		{0xFFFF, "\xEF\xBF\xBF"}, {0x10000, "\xF0\x90\x80\x80"}, {0x1F600, "\xF0\x9F\x98\x80"}, {0x10FFFF, "\xF4\x8F\xBF\xBF"},
	}
	for _, row := range rows {
		if got := octet.Bytes(row.r); string(got) != row.want {
			t.Errorf("Bytes(%x) is %x, want %x", row.r, got, row.want)
		}
	}
}

func TestP1_1BytesOfNoRune(t *testing.T) {
	check := func(r rune) {
		if got := octet.Bytes(r); string(got) != "\xEF\xBF\xBD" {
			t.Errorf("Bytes(%x) is %x, want efbfbd", r, got)
		}
	}
	for r := rune(0xD800); r <= 0xDFFF; r++ {
		check(r)
	}
	for _, r := range []rune{-1, -2, -0x41, -0x80, -0x20AC, -0x10000, math.MinInt32 + 0x41, math.MinInt32} {
		check(r)
	}
	for _, r := range []rune{0x110000, 0x110001, 0x1FFFFF, 0x200000, 0x200041, 0x7FFF0041, math.MaxInt32} {
		check(r)
	}
	for i := range rune(31) {
		check(-1 << i)
		if i >= 21 {
			check(1 << i)
		}
	}
}

func TestP1_2ThereAndBack(t *testing.T) {
	seen := 0
	last := rune(-1)
	runes(func(r rune, b []byte) {
		if r <= last {
			t.Fatalf("this test goes from %x to %x", last, r)
		}
		seen, last = seen+1, r
		made := octet.Bytes(r)
		if !bytes.Equal(made, b) || octet.Value(made) != r {
			t.Fatalf("Bytes(%x) is %x, and its Value %x; want %x", r, made, octet.Value(made), b)
		}
		if !octet.Whole(b) || !bytes.Equal(octet.Bytes(octet.Value(b)), b) {
			t.Fatalf("Bytes(Value(%x)) is %x", b, octet.Bytes(octet.Value(b)))
		}
	})
	if want := 0x110000 - 0x800; seen != want {
		t.Errorf("this test saw %d runes, want %d", seen, want)
	}
}

func TestP1_2UnlikeAndLengths(t *testing.T) {
	owner := map[string]rune{}
	for r := rune(0); r <= 0x10FFFF; r++ {
		if r == 0xD800 {
			r = 0xE000
		}
		b := octet.Bytes(r)
		if other, ok := owner[string(b)]; ok {
			t.Fatalf("%x and %x are both %x", other, r, b)
		}
		owner[string(b)] = r
		want := 4
		switch {
		case r < 0x80:
			want = 1
		case r < 0x800:
			want = 2
		case r < 0x10000:
			want = 3
		}
		if len(b) != want {
			t.Fatalf("Bytes(%x) is %x, want %d bytes", r, b, want)
		}
	}
}

func TestP1_3BytesOfAnEncoding(t *testing.T) {
	runes(func(r rune, _ []byte) {
		b := octet.Bytes(r)
		if octet.Need(b[0]) != len(b) {
			t.Fatalf("Need(%x) is %d, of the encoding %x", b[0], octet.Need(b[0]), b)
		}
		if len(b) > 1 && !octet.Second(b[0], b[1]) {
			t.Fatalf("Second refuses %x", b)
		}
		for _, x := range b[1:] {
			if octet.Class(x) != api.Tail {
				t.Fatalf("%x in %x is no Tail", x, b)
			}
		}
	})
}

func TestP1_3NoneWithinAnother(t *testing.T) {
	runes(func(_ rune, b []byte) {
		for lo := range b {
			for hi := lo + 1; hi <= len(b); hi++ {
				if hi-lo < len(b) && octet.Whole(b[lo:hi]) {
					t.Fatalf("%x stands within %x", b[lo:hi], b)
				}
			}
		}
	})
}

func TestP1_3NoneBeginsAnother(t *testing.T) {
	more := make([]byte, 0, 8)
	runes(func(r rune, b []byte) {
		for _, x := range edgeBytes {
			more = append(append(more[:0], b...), x)
			if octet.Whole(more) {
				t.Fatalf("%x begins %x", b, more)
			}
		}
	})
}

func TestP1_4GivenBytesStay(t *testing.T) {
	texts := []string{"", "A", "\x82", "\xC2\x80", "\xE2\x82\xAC", "\xE2\x82", "\xF4\x8F\xBF\xBF", "\xF4\x90\x80\x80", "\xE2\x82\xAC\x41\xFF\x00"}
	for _, text := range texts {
		room := append([]byte(text), "spare room"...)
		kept := slices.Clone(room)
		b := room[:len(text)]
		whole, value := octet.Whole(b), octet.Value(b)
		if !bytes.Equal(room, kept) {
			t.Errorf("%x became %x", kept, room)
		}
		// The same answers once more, whatever stands behind the bytes now.
		copy(room[len(text):], "\x80\x80\x80\x80")
		if octet.Whole(b) != whole || octet.Value(b) != value {
			t.Errorf("%x: the spare room changes the answer", text)
		}
	}
}

func TestP1_4AnswersAreNewMemory(t *testing.T) {
	for _, r := range []rune{0, 0x41, 0x7F, 0x80, 0x7FF, 0x800, 0x20AC, 0xFFFD, 0xFFFF, 0x10000, 0x10FFFF, -1, 0xD800, 0xDFFF, 0x110000} {
		first, second := octet.Bytes(r), octet.Bytes(r)
		want := string(second)
		room := first[:cap(first)]
		for i := range room {
			room[i] = 0xAA
		}
		if string(second) != want {
			t.Errorf("Bytes(%x): two answers share memory: %x", r, second)
		}
		if third := octet.Bytes(r); string(third) != want {
			t.Errorf("Bytes(%x): an answer that was written over is kept: %x", r, third)
		}
		if octet.Class(0x41) != api.Plain || octet.Need(0xE2) != 3 {
			t.Errorf("Bytes(%x): writing over the answer changed the classes", r)
		}
	}
}
