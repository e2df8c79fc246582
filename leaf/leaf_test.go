package leaf_test

import (
	"bytes"
	"math"
	"slices"
	"testing"
	"unicode/utf8"

	"galley/api"
	"galley/leaf"
	"galley/weld"
)

const (
	least    = math.MinInt
	greatest = math.MaxInt
)

// example and shortOne are the chapter's texts.
const (
	example  = "a\xf0\x9f\x98\x80bc"
	shortOne = "\xc3\xa9\r"
)

// noSizes are sizes that no leaf may have.
var noSizes = []int{0, -1, -4, -4096, api.MaxLeaf + 1, api.MaxLeaf + 4, 1 << 28, 1<<32 + 4, -1<<32 + 4, least, least + 4, greatest - 3, greatest}

// extremes are places that no leaf has.
var extremes = []int{least, least + 1, -1 << 32, -1<<32 + 1, -4096, -2, -1, api.MaxLeaf + 1, 1 << 31, 1 << 32, 1<<32 + 1, greatest - 1, greatest}

// sizesOf are the sizes of a text, by the library and by the document's words.
func sizesOf(b []byte) api.Sizes {
	z := api.Sizes{Bytes: len(b)}
	for i, x := range b {
		if x == '\r' || x == '\n' && (i == 0 || b[i-1] != '\r') {
			z.Ends++
		}
	}
	for left := b; len(left) > 0; {
		r, n := utf8.DecodeRune(left)
		z.Runes++
		z.Units++
		if r > 0xFFFF {
			z.Units++
		}
		left = left[n:]
	}
	return z
}

// measureOf is the measure of a text, by the document's words.
func measureOf(b []byte) api.Weld {
	few := min(len(b), 3)
	return api.Weld{Sizes: sizesOf(b), Head: string(b[:few]), Tail: string(b[len(b)-few:])}
}

// edgesOf tells of each place of a text whether it is an edge.
func edgesOf(b []byte) []bool {
	edges := make([]bool, len(b)+1)
	edges[0] = true
	for at := 0; at < len(b); {
		_, n := utf8.DecodeRune(b[at:])
		at += n
		edges[at] = true
	}
	return edges
}

// cutOf is how a text is cut, by the document's words.
func cutOf(b []byte, most int) [][]byte {
	edges := edgesOf(b)
	var pieces [][]byte
	begin := 0
	for len(b)-begin > most {
		end := begin + most
		for most >= 4 && !edges[end] {
			end--
		}
		pieces = append(pieces, b[begin:end])
		begin = end
	}
	if begin < len(b) {
		pieces = append(pieces, b[begin:])
	}
	return pieces
}

func holdLeaf(t *testing.T, l *leaf.Leaf, want []byte) {
	t.Helper()
	if l == nil {
		t.Fatalf("nil, want a leaf of % x", want)
	}
	if got := l.Bytes(); !bytes.Equal(got, want) {
		t.Fatalf("the leaf has % x, want % x", got, want)
	}
	if l.Len() != len(want) {
		t.Fatalf("Len of % x is %d", want, l.Len())
	}
	if got := l.Weld(); got != measureOf(want) {
		t.Fatalf("Weld of % x is %+v, want %+v", want, got, measureOf(want))
	}
}

// made is a leaf of bytes that are few enough.
func made(t *testing.T, b []byte) *leaf.Leaf {
	t.Helper()
	l, err := leaf.New(b)
	if l == nil || err != api.OK {
		t.Fatalf("New of %d bytes: %v, %d", len(b), l, err)
	}
	return l
}

func cut(t *testing.T, b []byte, most int) []*leaf.Leaf {
	t.Helper()
	leaves, err := leaf.Cut(b, most)
	if err != api.OK {
		t.Fatalf("Cut of %d bytes by %d: %d", len(b), most, err)
	}
	return leaves
}

func split(t *testing.T, l *leaf.Leaf, n int) (*leaf.Leaf, *leaf.Leaf) {
	t.Helper()
	a, b, err := l.Split(n)
	if a == nil || b == nil || err != api.OK {
		t.Fatalf("Split(%d) of % x: %v, %v, %d", n, l.Bytes(), a, b, err)
	}
	return a, b
}

func holdCut(t *testing.T, b []byte, most int) {
	t.Helper()
	want, leaves := cutOf(b, most), cut(t, b, most)
	if len(leaves) != len(want) {
		t.Fatalf("Cut of % x by %d: %d leaves, want %d", b, most, len(leaves), len(want))
	}
	for i, l := range leaves {
		if !bytes.Equal(l.Bytes(), want[i]) {
			t.Fatalf("Cut of % x by %d: leaf %d is % x, want % x", b, most, i, l.Bytes(), want[i])
		}
		holdLeaf(t, l, want[i])
	}
}

// holdPlaces: Before and Split at every place, and directly beyond both ends.
func holdPlaces(t *testing.T, b []byte) {
	t.Helper()
	l := made(t, b)
	for n := -1; n <= len(b)+1; n++ {
		before, err := l.Before(n)
		first, others, splitErr := l.Split(n)
		if n < 0 || n > len(b) {
			if before != (api.Weld{}) || err != api.ErrRange || first != nil || others != nil || splitErr != api.ErrRange {
				t.Fatalf("% x at %d: Before %+v, %d, Split %v, %v, %d", b, n, before, err, first, others, splitErr)
			}
			continue
		}
		if before != measureOf(b[:n]) || err != api.OK || splitErr != api.OK {
			t.Fatalf("% x at %d: Before %+v, %d, want %+v, Split %d", b, n, before, err, measureOf(b[:n]), splitErr)
		}
		holdLeaf(t, first, b[:n])
		holdLeaf(t, others, b[n:])
	}
	holdLeaf(t, l, b)
}

// edgeBytes: the line ends, and the first and the last byte of each class, with those beside the narrower second ones.
var edgeBytes = []byte{
	0x00, 0x0A, 0x0D, 0x41, 0x7F, 0x80, 0x8F, 0x90, 0x9F, 0xA0, 0xAC, 0xBF, 0xC0, 0xC1, 0xC2, 0xC3, 0xDF,
	0xE0, 0xE1, 0xE2, 0xEC, 0xED, 0xEE, 0xEF, 0xF0, 0xF1, 0xF3, 0xF4, 0xF5, 0xFE, 0xFF,
}

// fewBytes: the line ends, and bytes by which the steps part, for longer texts.
var fewBytes = []byte{0x0A, 0x0D, 0x41, 0x8F, 0x90, 0xA0, 0xC2, 0xE2, 0xED, 0xF0, 0xF4}

// leastBytes: the line ends, and bytes out of which encodings of each length can still be made.
var leastBytes = []byte{0x0A, 0x0D, 0x41, 0x90, 0xC2, 0xE2, 0xF0}

// texts calls f with every text of n bytes out of some.
func texts(n int, some []byte, f func(b []byte)) {
	b := make([]byte, n)
	var fill func(i int)
	fill = func(i int) {
		if i == n {
			f(b)
			return
		}
		for _, x := range some {
			b[i] = x
			fill(i + 1)
		}
	}
	fill(0)
}

// shortTexts calls f with texts of no byte up to seven bytes.
func shortTexts(f func(b []byte)) {
	every := make([]byte, 256)
	for i := range every {
		every[i] = byte(i)
	}
	texts(0, nil, f)
	texts(1, every, f)
	texts(2, edgeBytes, f)
	texts(3, fewBytes, f)
	texts(4, leastBytes, f)
	texts(5, []byte{0x0A, 0x0D, 0x41, 0x90, 0xE2, 0xF0}, f)
	texts(6, []byte{0x0A, 0x0D, 0x90, 0xE2, 0xF0}, f)
	texts(7, []byte{0x0A, 0x0D, 0x90, 0xF0}, f)
	texts(7, []byte{0x41, 0x90, 0xC2, 0xE2}, f)
}

// fewTexts calls f with those short texts by which steps and line ends part.
func fewTexts(f func(b []byte)) {
	texts(0, nil, f)
	for n := 1; n <= 3; n++ {
		texts(n, leastBytes, f)
	}
	texts(4, []byte{0x0A, 0x0D, 0x41, 0x90, 0xF0}, f)
	texts(5, []byte{0x0A, 0x0D, 0x90, 0xF0}, f)
	for seed := range uint32(300) {
		f(mixed(6+int(seed%7), seed, leastBytes))
	}
	f([]byte(example))
	f([]byte(shortOne))
}

// mixed are n bytes out of some, the same each time, that follow no short rule.
func mixed(n int, seed uint32, some []byte) []byte {
	out := make([]byte, n)
	for i := range out {
		seed = seed*1664525 + 1013904223
		out[i] = some[int(seed>>16)%len(some)]
	}
	return out
}

// pieces: encodings of one to four bytes, the first and the last of each length, and bytes that are none, but nearly.
var pieces = []string{
	"", "a", "\x7f", "\xc2\x80", "\xdf\xbf", "\xe0\xa0\x80", "\xe2\x82\xac", "\xed\x9f\xbf", "\xef\xbf\xbd", "\xef\xbf\xbf",
	"\xf0\x90\x80\x80", "\xf0\x9f\x98\x80", "\xf4\x8f\xbf\xbf", "\r\n", "\n\r", "\r", "\n", "\r\r\n",
	"\x80", "\xbf\xbf", "\xc0\x80", "\xc1\xbf", "\xc2", "\xe0\x9f\x80", "\xe2\x82", "\xe2", "\xed\xa0\x80", "\xf0\x8f\x80\x80", "\xf0\x9f\x98", "\xf0\x9f", "\xf0", "\xf4\x90\x80\x80", "\xf5\x80\x80\x80", "\xff\xff\xff\xff",
	"\xe2\x82\xf0\x9f\x98\x80", "\xf0\x9f\x98\xe2\x82\xac", "\xe2\x82\xac\x80\x80", "\xf0\x9f\x98\x80\x80", "\xc3\xa9\xa9",
}

// longTexts calls f with texts directly below, at and above the size of one leaf and of several, of each kind of step.
func longTexts(f func(b []byte)) {
	kinds := []string{"a", "\xff", "\x80", "\xf0", "\xe2\x82", "\r", "\r\n", "\u00e9", "\u20ac", "\U0001F600", "a\U0001F600", "ab\u20ac", "\xf0\x9f\x98", "\u00e9\r\n\U0001F600\xe2\x82"}
	for _, n := range []int{4092, 4093, 4094, 4095, 4096, 4097, 4098, 4099, 4100, 8191, 8192, 8193, 20000} {
		for _, kind := range kinds {
			f(bytes.Repeat([]byte(kind), n/len(kind)+1)[:n])
		}
		f(mixed(n, uint32(n), leastBytes))
	}
}

func TestP8_1CutExamples(t *testing.T) {
	cases := []struct {
		text string
		most int
		want []string
	}{
		{example, 4, []string{"a", "\xf0\x9f\x98\x80", "bc"}},
		{example, 2, []string{"a\xf0", "\x9f\x98", "\x80b", "c"}},
		{"\xe2\x82\xe2\x82a", 4, []string{"\xe2\x82\xe2\x82", "a"}},
		{"", 4, nil},
		{"", 1, nil},
		{"", api.MaxLeaf, nil},
		{example, 1, []string{"a", "\xf0", "\x9f", "\x98", "\x80", "b", "c"}},
		{example, 3, []string{"a\xf0\x9f", "\x98\x80b", "c"}},
		{example, 5, []string{"a\xf0\x9f\x98\x80", "bc"}},
		{example, 6, []string{"a\xf0\x9f\x98\x80b", "c"}},
		{example, 7, []string{example}},
		{example, api.MaxLeaf, []string{example}},
		{"abcd", 4, []string{"abcd"}},
		{"abcde", 4, []string{"abcd", "e"}},
		{"abcdefgh", 4, []string{"abcd", "efgh"}},
		{"abc\u00e9", 4, []string{"abc", "\u00e9"}},
		{"abc\u20acd", 4, []string{"abc", "\u20acd"}},
		{"ab\u20acd", 4, []string{"ab", "\u20acd"}},
		{"ab\u20acd", 3, []string{"ab\xe2", "\x82\xacd"}},
		{"abc\U0001F600", 4, []string{"abc", "\U0001F600"}},
		{"ab\U0001F600", 4, []string{"ab", "\U0001F600"}},
		{"\U0001F600\U0001F600", 4, []string{"\U0001F600", "\U0001F600"}},
		{"\U0001F600\U0001F600", 7, []string{"\U0001F600", "\U0001F600"}},
		{"\U0001F600\U0001F600", 3, []string{"\xf0\x9f\x98", "\x80\xf0\x9f", "\x98\x80"}},
		{"\xf0\x9f\x98\x80\x80\x80", 4, []string{"\U0001F600", "\x80\x80"}},
		{"abc\xf0\x9f", 4, []string{"abc\xf0", "\x9f"}},
		{"\xff\xff\xff\xff\xff", 4, []string{"\xff\xff\xff\xff", "\xff"}},
		{"ab\r\n", 4, []string{"ab\r\n"}},
		{"abc\r\n", 4, []string{"abc\r", "\n"}},
		{"ab", 1, []string{"a", "b"}},
		{"a", 1, []string{"a"}},
	}
	for _, c := range cases {
		var got []string
		leaves := cut(t, []byte(c.text), c.most)
		for _, l := range leaves {
			got = append(got, string(l.Bytes()))
		}
		if !slices.Equal(got, c.want) {
			t.Errorf("Cut(% x, %d) is % x, want % x", c.text, c.most, got, c.want)
		}
	}
	if got := cut(t, nil, 4); len(got) != 0 {
		t.Errorf("Cut(nil, 4) has %d leaves", len(got))
	}
}

func TestP8_1LeafExamples(t *testing.T) {
	l := made(t, []byte(shortOne))
	if l.Len() != 3 || string(l.Bytes()) != shortOne {
		t.Errorf("%d bytes: % x", l.Len(), l.Bytes())
	}
	if got, want := l.Weld(), (api.Weld{Sizes: api.Sizes{Bytes: 3, Runes: 2, Units: 2, Ends: 1}, Head: shortOne, Tail: shortOne}); got != want {
		t.Errorf("Weld is %+v, want %+v", got, want)
	}
	if got, err := l.Before(1); err != api.OK || got != (api.Weld{Sizes: api.Sizes{Bytes: 1, Runes: 1, Units: 1}, Head: "\xc3", Tail: "\xc3"}) {
		t.Errorf("Before(1) is %+v, %d", got, err)
	}
	a, b := split(t, l, 1)
	if string(a.Bytes()) != "\xc3" || string(b.Bytes()) != "\xa9\r" {
		t.Errorf("Split(1) is % x and % x", a.Bytes(), b.Bytes())
	}
	if got, err := l.Before(4); got != (api.Weld{}) || err != api.ErrRange {
		t.Errorf("Before(4) is %+v, %d", got, err)
	}
	if a, b, err := l.Split(-1); a != nil || b != nil || err != api.ErrRange {
		t.Errorf("Split(-1) is %v, %v, %d", a, b, err)
	}
}

func TestP8_1CutEveryShortText(t *testing.T) {
	shortTexts(func(b []byte) {
		for most := 1; most <= 8; most++ {
			holdCut(t, b, most)
		}
	})
}

func TestP8_1PlacesOfShortTexts(t *testing.T) {
	fewTexts(func(b []byte) { holdPlaces(t, b) })
	for _, one := range pieces {
		for _, other := range pieces {
			holdPlaces(t, []byte(one+other))
		}
	}
}

// Every piece, with others ahead of it and behind it, at each offset of a border.
func TestP8_1CutPiecesAtBorders(t *testing.T) {
	for _, most := range []int{1, 2, 3, 4, 5, 6, 7, 8, 9, 16} {
		for offset := range 7 {
			for _, piece := range pieces {
				for _, fill := range []string{"x", "\xff", "\u00e9", "\U0001F600"} {
					ahead := bytes.Repeat([]byte(fill), 2*most)[:max(0, 2*most-offset)]
					holdCut(t, slices.Concat(ahead, []byte(piece), []byte("yz")), most)
					holdCut(t, slices.Concat(ahead, []byte(piece)), most)
					holdCut(t, slices.Concat(ahead, []byte(piece), []byte(piece), []byte("\x80\x80")), most)
				}
			}
		}
	}
}

func TestP8_1CutPiecesAtTheGreatestBorder(t *testing.T) {
	for _, most := range []int{4095, 4096} {
		for offset := range 7 {
			for _, piece := range pieces {
				holdCut(t, []byte(string(bytes.Repeat([]byte("x"), most-offset))+piece+"yz\u20ac"), most)
			}
		}
	}
}

func TestP8_1CutLongTexts(t *testing.T) {
	longTexts(func(b []byte) {
		for _, most := range []int{3, 4, 5, 7, 64, 1000, 4093, 4094, 4095, 4096} {
			holdCut(t, b, most)
		}
	})
	holdCut(t, mixed(20000, 7, leastBytes), 1)
	holdCut(t, mixed(20000, 8, leastBytes), 2)
}

// The greatest text that may be cut, and one byte more; a size that may not be is told ahead of it.
func TestP8_1CutGreatTexts(t *testing.T) {
	b := make([]byte, api.MaxText+1)
	if leaves, err := leaf.Cut(b, 4096); leaves != nil || err != api.ErrLong {
		t.Errorf("Cut of one byte more: %d leaves, %d", len(leaves), err)
	}
	if leaves, err := leaf.Cut(b, 1); leaves != nil || err != api.ErrLong {
		t.Errorf("Cut of one byte more by 1: %d leaves, %d", len(leaves), err)
	}
	for _, most := range noSizes {
		if leaves, err := leaf.Cut(b, most); leaves != nil || err != api.ErrLeaf {
			t.Errorf("Cut of one byte more by %d: %d leaves, %d", most, len(leaves), err)
		}
	}
	if l, err := leaf.New(b); l != nil || err != api.ErrLong {
		t.Errorf("New of the greatest text: %v, %d", l, err)
	}
	copy(b[api.MaxLeaf-2:], "\U0001F600")
	leaves := cut(t, b[:api.MaxText], api.MaxLeaf)
	if len(leaves) != api.MaxText/api.MaxLeaf+1 {
		t.Fatalf("Cut of the greatest text: %d leaves", len(leaves))
	}
	at := 0
	for i, l := range leaves {
		want := api.MaxLeaf
		switch i {
		case 0:
			want = api.MaxLeaf - 2
		case len(leaves) - 1:
			want = 2
		}
		if l.Len() != want || !bytes.Equal(l.Bytes(), b[at:at+want]) {
			t.Fatalf("leaf %d has %d bytes, want %d, or others", i, l.Len(), want)
		}
		at += want
	}
}

func TestP8_1CutNoSizes(t *testing.T) {
	for _, text := range []string{"", "a", example, shortOne} {
		for _, most := range noSizes {
			if leaves, err := leaf.Cut([]byte(text), most); leaves != nil || err != api.ErrLeaf {
				t.Errorf("Cut(% x, %d): %d leaves, %d", text, most, len(leaves), err)
			}
		}
	}
	for _, most := range noSizes {
		if leaves, err := leaf.Cut(nil, most); leaves != nil || err != api.ErrLeaf {
			t.Errorf("Cut(nil, %d): %d leaves, %d", most, len(leaves), err)
		}
	}
}

func TestP8_1New(t *testing.T) {
	holdLeaf(t, made(t, nil), nil)
	shortTexts(func(b []byte) { holdLeaf(t, made(t, b), b) })
	longTexts(func(b []byte) {
		if len(b) <= api.MaxLeaf {
			holdLeaf(t, made(t, b), b)
			return
		}
		if l, err := leaf.New(b); l != nil || err != api.ErrLong {
			t.Fatalf("New of %d bytes: %v, %d", len(b), l, err)
		}
	})
}

func TestP8_1PlacesOfTheGreatestLeaf(t *testing.T) {
	b := mixed(api.MaxLeaf, 5, leastBytes)
	l := made(t, b)
	for _, n := range []int{0, 1, 2, 3, 4, 2047, 2048, 2049, 4092, 4093, 4094, 4095, 4096} {
		if got, err := l.Before(n); got != measureOf(b[:n]) || err != api.OK {
			t.Errorf("Before(%d) is %+v, %d", n, got, err)
		}
		first, others := split(t, l, n)
		holdLeaf(t, first, b[:n])
		holdLeaf(t, others, b[n:])
	}
}

func TestP8_1NoPlaces(t *testing.T) {
	for _, b := range [][]byte{nil, []byte("a"), []byte(example), mixed(4095, 1, leastBytes), mixed(4096, 2, leastBytes)} {
		l := made(t, b)
		for _, n := range append(slices.Clone(extremes), len(b)+1) {
			if got, err := l.Before(n); got != (api.Weld{}) || err != api.ErrRange {
				t.Errorf("Before(%d) of %d bytes is %+v, %d", n, len(b), got, err)
			}
			if first, others, err := l.Split(n); first != nil || others != nil || err != api.ErrRange {
				t.Errorf("Split(%d) of %d bytes is %v, %v, %d", n, len(b), first, others, err)
			}
		}
	}
}

func TestP8_1JoinEveryPair(t *testing.T) {
	for _, one := range pieces {
		for _, other := range pieces {
			a, b := made(t, []byte(one)), made(t, []byte(other))
			got, err := leaf.Join(a, b)
			if err != api.OK {
				t.Fatalf("Join of % x and % x: %d", one, other, err)
			}
			holdLeaf(t, got, []byte(one+other))
			holdLeaf(t, a, []byte(one))
			holdLeaf(t, b, []byte(other))
		}
	}
	l := made(t, []byte("\x90\xf0\x90\x90"))
	if got, err := leaf.Join(l, l); err != api.OK {
		t.Errorf("Join of a leaf with itself: %d", err)
	} else {
		holdLeaf(t, got, []byte("\x90\xf0\x90\x90\x90\xf0\x90\x90"))
	}
}

func TestP8_1JoinLong(t *testing.T) {
	text := mixed(2*api.MaxLeaf, 3, leastBytes)
	for _, sizes := range [][2]int{
		{0, 4095}, {4095, 0}, {0, 4096}, {4096, 0}, {1, 4095}, {4095, 1}, {2048, 2048}, {2, 4094},
		{1, 4096}, {4096, 1}, {2, 4095}, {4095, 2}, {2048, 2049}, {4096, 4096}, {4095, 4096},
	} {
		n, all := sizes[0], sizes[0]+sizes[1]
		got, err := leaf.Join(made(t, text[:n]), made(t, text[n:all]))
		if all <= api.MaxLeaf {
			if err != api.OK {
				t.Fatalf("Join of %v: %d", sizes, err)
			}
			holdLeaf(t, got, text[:all])
		} else if got != nil || err != api.ErrLong {
			t.Errorf("Join of %v: %v, %d", sizes, got, err)
		}
	}
}

func TestP8_1NilLeaves(t *testing.T) {
	var none *leaf.Leaf
	if got := none.Bytes(); len(got) != 0 {
		t.Errorf("Bytes of nil: % x", got)
	}
	if none.Len() != 0 || none.Weld() != weld.Of(nil) || none.Weld() != (api.Weld{}) {
		t.Errorf("nil: Len %d, Weld %+v", none.Len(), none.Weld())
	}
	for _, n := range append(slices.Clone(extremes), 0, 1) {
		if got, err := none.Before(n); got != (api.Weld{}) || err != api.ErrNil {
			t.Errorf("Before(%d) of nil is %+v, %d", n, got, err)
		}
		if first, others, err := none.Split(n); first != nil || others != nil || err != api.ErrNil {
			t.Errorf("Split(%d) of nil is %v, %v, %d", n, first, others, err)
		}
	}
	for _, l := range []*leaf.Leaf{nil, made(t, nil), made(t, []byte("a")), made(t, make([]byte, api.MaxLeaf))} {
		if got, err := leaf.Join(none, l); got != nil || err != api.ErrNil {
			t.Errorf("Join of nil with %d bytes: %v, %d", l.Len(), got, err)
		}
		if got, err := leaf.Join(l, none); got != nil || err != api.ErrNil {
			t.Errorf("Join of %d bytes with nil: %v, %d", l.Len(), got, err)
		}
	}
}

// holdSum: the leaves are the text, one behind the other, none of them empty or too long, and so are their measures.
func holdSum(t *testing.T, b []byte, most int) {
	t.Helper()
	var text []byte
	var measures []api.Weld
	for i, l := range cut(t, b, most) {
		if l.Len() < 1 || l.Len() > most {
			t.Fatalf("% x by %d: leaf %d has %d bytes", b, most, i, l.Len())
		}
		text = append(text, l.Bytes()...)
		measures = append(measures, l.Weld())
	}
	if !bytes.Equal(text, b) {
		t.Fatalf("% x by %d became % x", b, most, text)
	}
	if got, err := weld.Sum(measures); got != weld.Of(b) || err != api.OK {
		t.Fatalf("% x by %d: the sum of the measures is %+v, %d, want %+v", b, most, got, err, weld.Of(b))
	}
}

func TestP8_2LeavesAreTheText(t *testing.T) {
	every := func(b []byte) {
		for most := 1; most <= 8; most++ {
			holdSum(t, b, most)
		}
	}
	fewTexts(every)
	texts(6, []byte{0x0A, 0x0D, 0x90, 0xF0}, every)
	texts(7, []byte{0x90, 0xE2, 0xF0}, every)
	texts(7, []byte{0x0A, 0x0D, 0x41}, every)
	longTexts(func(b []byte) {
		for _, most := range []int{3, 4, 100, 4095, 4096} {
			holdSum(t, b, most)
		}
	})
	holdSum(t, mixed(300000, 11, leastBytes), 4096)
}

// holdTwo: Split, Before and Join agree at every place of a leaf.
func holdTwo(t *testing.T, b []byte, places []int) {
	t.Helper()
	l := made(t, b)
	for _, n := range places {
		first, others := split(t, l, n)
		again, err := leaf.Join(first, others)
		if err != api.OK || !bytes.Equal(again.Bytes(), b) || again.Len() != l.Len() || again.Weld() != l.Weld() {
			t.Fatalf("% x at %d: split and joined it is % x, %+v, %d", b, n, again.Bytes(), again.Weld(), err)
		}
		before, err := l.Before(n)
		if err != api.OK || before != first.Weld() {
			t.Fatalf("% x at %d: Before %+v, %d, the first leaf %+v", b, n, before, err, first.Weld())
		}
		if both, err := weld.Join(before, others.Weld()); err != api.OK || both != l.Weld() {
			t.Fatalf("% x at %d: the measures together are %+v, %d, want %+v", b, n, both, err, l.Weld())
		}
	}
}

func TestP8_3SplitAndJoin(t *testing.T) {
	upTo := func(n int) (places []int) {
		for p := range n + 1 {
			places = append(places, p)
		}
		return places
	}
	fewTexts(func(b []byte) { holdTwo(t, b, upTo(len(b))) })
	for _, one := range pieces {
		for _, other := range pieces {
			holdTwo(t, []byte(one+other), upTo(len(one+other)))
		}
	}
	longTexts(func(b []byte) {
		if len(b) <= api.MaxLeaf {
			holdTwo(t, b, []int{0, 1, 2, 3, 5, 1000, 2001, 4089, 4090, 4091, 4092, len(b)})
		}
	})
}

func holdBorders(t *testing.T, b []byte, most int) {
	t.Helper()
	edges, at := edgesOf(b), 0
	var sum api.Sizes
	leaves := cut(t, b, most)
	for i, l := range leaves {
		if i+1 < len(leaves) && l.Len() < most-3 {
			t.Fatalf("% x by %d: leaf %d has %d bytes", b, most, i, l.Len())
		}
		at += l.Len()
		if !edges[at] {
			t.Fatalf("% x by %d: the border %d is inside", b, most, at)
		}
		z := l.Weld().Sizes
		sum.Bytes += z.Bytes
		sum.Runes += z.Runes
		sum.Units += z.Units
		sum.Ends += z.Ends
	}
	all := sizesOf(b)
	if sum.Bytes != all.Bytes || sum.Runes != all.Runes || sum.Units != all.Units {
		t.Fatalf("% x by %d: the sizes of the leaves are %v together, those of the text %v", b, most, sum, all)
	}
	if parted := partedEnds(leaves); sum.Ends-parted != all.Ends {
		t.Fatalf("% x by %d: %d line ends, %d of them parted, want %d", b, most, sum.Ends, parted, all.Ends)
	}
}

// partedEnds is how many CR LF have a border between them.
func partedEnds(leaves []*leaf.Leaf) int {
	n := 0
	for i := range max(0, len(leaves)-1) {
		if bytes.HasSuffix(leaves[i].Bytes(), []byte("\r")) && bytes.HasPrefix(leaves[i+1].Bytes(), []byte("\n")) {
			n++
		}
	}
	return n
}

func TestP8_4BordersAreEdges(t *testing.T) {
	shortTexts(func(b []byte) {
		for most := 4; most <= 8; most++ {
			holdBorders(t, b, most)
		}
	})
	for _, one := range pieces {
		for _, other := range pieces {
			for most := 4; most <= 7; most++ {
				holdBorders(t, []byte("xy"+one+other+one), most)
			}
		}
	}
	longTexts(func(b []byte) {
		for _, most := range []int{4, 5, 6, 7, 100, 4093, 4094, 4095, 4096} {
			holdBorders(t, b, most)
		}
	})
}

// A CR LF may be parted: its border is an edge.
func TestP8_4LineEndsParted(t *testing.T) {
	leaves := cut(t, []byte("abc\r\nd"), 4)
	if len(leaves) != 2 || leaves[0].Weld().Sizes.Ends != 1 || leaves[1].Weld().Sizes.Ends != 1 || partedEnds(leaves) != 1 {
		t.Errorf("%d leaves, the first % x", len(leaves), leaves[0].Bytes())
	}
}

// spoil writes over bytes and all the room behind them.
func spoil(b []byte) {
	b = b[:cap(b)]
	for i := range b {
		b[i] ^= 0xFF
	}
}

// R6: bytes that are handed in stay, the room behind them is neither written nor read, and none are kept.
func TestP8_5BytesHandedIn(t *testing.T) {
	for n := range 40 {
		for most := 1; most <= 9; most++ {
			room := mixed(n+10, uint32(n), leastBytes)
			before := bytes.Clone(room)
			b := room[:n]
			leaves, one := cut(t, b, most), made(t, b)
			if !bytes.Equal(room, before) {
				t.Fatalf("% x became % x", before, room)
			}
			spoil(room)
			want := cutOf(before[:n:n], most)
			if len(leaves) != len(want) {
				t.Fatalf("% x by %d: %d leaves, want %d", before[:n], most, len(leaves), len(want))
			}
			for i, l := range leaves {
				holdLeaf(t, l, want[i])
			}
			holdLeaf(t, one, before[:n])
		}
	}
}

// The first bytes of an encoding at the text's end, with what would go on in the room behind it.
func TestP8_5RoomBehindIsNotRead(t *testing.T) {
	b := []byte("abc\xf0\x9f\x98\x80")
	for n := range len(b) {
		for most := 4; most <= 6; most++ {
			holdCut(t, b[:n], most)
		}
		holdLeaf(t, made(t, b[:n]), b[:n])
	}
}

// R6: what was answered may be written over, spare room too, and nothing else changes.
func TestP8_5AnswersAreNew(t *testing.T) {
	fewTexts(func(b []byte) {
		l := made(t, b)
		one, other := l.Bytes(), l.Bytes()
		spoil(one)
		if !bytes.Equal(other, b) {
			t.Fatalf("% x became % x", b, other)
		}
		holdLeaf(t, l, b)
		leaves, again := cut(t, b, 4), cut(t, b, 4)
		for _, x := range leaves {
			spoil(x.Bytes())
		}
		clear(leaves[:cap(leaves)])
		want := cutOf(b, 4)
		for i, x := range again {
			holdLeaf(t, x, want[i])
		}
	})
}

// Whatever is made of a leaf, and done to what was made, it and the others stay.
func TestP8_5LeavesNeverChange(t *testing.T) {
	fewTexts(func(b []byte) {
		l := made(t, b)
		for n := range len(b) + 1 {
			first, others := split(t, l, n)
			turned, err := leaf.Join(others, first)
			if err != api.OK {
				t.Fatalf("Join: %d", err)
			}
			for _, x := range []*leaf.Leaf{l, first, others, turned} {
				spoil(x.Bytes())
			}
			holdLeaf(t, first, b[:n])
			holdLeaf(t, others, b[n:])
			holdLeaf(t, turned, slices.Concat(b[n:], b[:n]))
			if _, err := l.Before(n); err != api.OK {
				t.Fatalf("Before(%d) of % x: %d", n, b, err)
			}
			holdLeaf(t, l, b)
		}
	})
}

// A part of a leaf, as often as it is split, is a leaf as any other.
func TestP8_5PartsOfParts(t *testing.T) {
	text := mixed(60, 9, leastBytes)
	all := made(t, nil)
	left := made(t, text)
	for n := 1; left.Len() > 0; n = n%5 + 1 {
		var first *leaf.Leaf
		first, left = split(t, left, min(n, left.Len()))
		joined, err := leaf.Join(all, first)
		if err != api.OK {
			t.Fatal(err)
		}
		all = joined
		holdLeaf(t, all, text[:all.Len()])
		holdLeaf(t, left, text[all.Len():])
		holdPlaces(t, left.Bytes())
	}
	holdLeaf(t, all, text)
}
