package weld_test

import (
	"bytes"
	"fmt"
	"math"
	"math/big"
	"slices"
	"strings"
	"testing"
	"unicode/utf8"

	"galley/api"
	"galley/weld"
)

func sizes(b, r, u, e int) api.Sizes { return api.Sizes{Bytes: b, Runes: r, Units: u, Ends: e} }

func measure(z api.Sizes, head, tail string) api.Weld {
	return api.Weld{Sizes: z, Head: head, Tail: tail}
}

func of(s string) api.Weld { return weld.Of([]byte(s)) }

// sizesOf are the sizes of a text, by the library and by the document's words.
func sizesOf(b []byte) api.Sizes {
	z := api.Sizes{Bytes: len(b)}
	for i, x := range b {
		if x == '\r' || x == '\n' && (i == 0 || b[i-1] != '\r') {
			z.Ends++
		}
	}
	for len(b) > 0 {
		r, n := utf8.DecodeRune(b)
		z.Runes++
		z.Units++
		if r > 0xFFFF {
			z.Units++
		}
		b = b[n:]
	}
	return z
}

// measureOf is the measure of a text, by the document's words.
func measureOf(b []byte) api.Weld {
	return measure(sizesOf(b), firstThree(string(b)), lastThree(string(b)))
}

func firstThree(s string) string {
	if len(s) < 3 {
		return s
	}
	return s[:3]
}

func lastThree(s string) string {
	if len(s) < 3 {
		return s
	}
	return s[len(s)-3:]
}

// mayBe is the section 'A Weld may be', rule by rule, with numbers of any size.
func mayBe(w api.Weld) bool {
	z := w.Sizes
	if z.Bytes < 0 || z.Bytes > 1<<28 {
		return false
	}
	ends := z.Bytes
	if ends > 3 {
		ends = 3
	}
	if len(w.Head) != ends || len(w.Tail) != ends {
		return false
	}
	if z.Bytes <= 6 {
		return mayBeShort(w)
	}
	whole := func(n int) *big.Int { return big.NewInt(int64(n)) }
	minus := func(a, b *big.Int) *big.Int { return new(big.Int).Sub(a, b) }
	times := func(n int, a *big.Int) *big.Int { return new(big.Int).Mul(whole(n), a) }
	q := minus(whole(z.Units), whole(z.Runes))
	others := minus(whole(z.Runes), q)
	left := minus(whole(z.Bytes), times(4, q))
	return q.Sign() >= 0 && others.Sign() >= 0 && left.Cmp(others) >= 0 && left.Cmp(times(3, others)) <= 0 && z.Ends >= 0 && z.Ends <= z.Runes
}

func mayBeShort(w api.Weld) bool {
	b := make([]byte, w.Sizes.Bytes)
	copy(b, w.Head)
	copy(b[len(b)-len(w.Tail):], w.Tail)
	return bytes.HasPrefix(b, []byte(w.Head)) && sizesOf(b) == w.Sizes
}

// seamOf is the seam, by the document's words: every pair of k and j.
func seamOf(tail, head string) api.Sizes {
	var z api.Sizes
	for k := 1; k <= len(tail); k++ {
		for j := 1; j <= len(head); j++ {
			text := tail[len(tail)-k:] + head[:j]
			if !utf8.ValidString(text) || utf8.RuneCountInString(text) != 1 {
				continue
			}
			z.Runes += k + j - 1
			z.Units += k + j - 1
			if r, _ := utf8.DecodeRuneInString(text); r > 0xFFFF {
				z.Units--
			}
		}
	}
	if strings.HasSuffix(tail, "\x0d") && strings.HasPrefix(head, "\x0a") {
		z.Ends = 1
	}
	return z
}

// joinOf is what Join and Seam answer, by the document's words.
func joinOf(a, b api.Weld) (api.Weld, api.Sizes, api.Errno) {
	if !mayBe(a) || !mayBe(b) {
		return api.Weld{}, api.Sizes{}, api.ErrWeld
	}
	if a.Sizes.Bytes+b.Sizes.Bytes > 1<<28 {
		return api.Weld{}, api.Sizes{}, api.ErrLong
	}
	seam := seamOf(a.Tail, b.Head)
	w := measure(api.Sizes{
		Bytes: a.Sizes.Bytes + b.Sizes.Bytes,
		Runes: a.Sizes.Runes + b.Sizes.Runes - seam.Runes,
		Units: a.Sizes.Units + b.Sizes.Units - seam.Units,
		Ends:  a.Sizes.Ends + b.Sizes.Ends - seam.Ends,
	}, a.Head, b.Tail)
	if a.Sizes.Bytes < 3 {
		w.Head = firstThree(a.Head + b.Head)
	}
	if b.Sizes.Bytes < 3 {
		w.Tail = lastThree(a.Tail + b.Tail)
	}
	if !mayBe(w) {
		return api.Weld{}, api.Sizes{}, api.ErrWeld
	}
	return w, seam, api.OK
}

// holdJoin holds Join and Seam against the model; its answer is Join's.
func holdJoin(t *testing.T, a, b api.Weld) (api.Weld, api.Errno) {
	t.Helper()
	want, wantSeam, wantErr := joinOf(a, b)
	w, err := weld.Join(a, b)
	if w != want || err != wantErr {
		t.Fatalf("Join(%s, %s) is %s, %d, want %s, %d", tell(a), tell(b), tell(w), err, tell(want), wantErr)
	}
	if seam, err := weld.Seam(a, b); seam != wantSeam || err != wantErr {
		t.Fatalf("Seam(%s, %s) is %v, %d, want %v, %d", tell(a), tell(b), seam, err, wantSeam, wantErr)
	}
	return w, err
}

func holdValid(t *testing.T, w api.Weld) {
	t.Helper()
	if got, want := weld.Valid(w), mayBe(w); got != want {
		t.Fatalf("Valid(%s) is %v, want %v", tell(w), got, want)
	}
}

func tell(w api.Weld) string {
	return fmt.Sprintf("{%v % x, % x}", w.Sizes, w.Head, w.Tail)
}

func tellAll(l []api.Weld) string {
	var out []string
	for _, w := range l {
		out = append(out, tell(w))
	}
	return strings.Join(out, ", ")
}

// edgeBytes: the first and the last byte of each class, those beside the narrower second ones, the line ends, and one from the midst of each.
var edgeBytes = []byte{
	0x00, 0x0A, 0x0D, 0x41, 0x7F, 0x80, 0x82, 0x8F, 0x90, 0x9F, 0xA0, 0xAC, 0xBF, 0xC0, 0xC1, 0xC2, 0xC3, 0xDF,
	0xE0, 0xE1, 0xE2, 0xEC, 0xED, 0xEE, 0xEF, 0xF0, 0xF1, 0xF3, 0xF4, 0xF5, 0xFE, 0xFF,
}

// fewBytes: by which the steps and the line ends part, for longer texts.
var fewBytes = []byte{0x0A, 0x0D, 0x41, 0x8F, 0x90, 0xA0, 0xC2, 0xE0, 0xE2, 0xED, 0xF0, 0xF1, 0xF4}

// leastBytes: out of which encodings of each length, and all line ends, can still be made.
var leastBytes = []byte{0x0A, 0x0D, 0x90, 0xC2, 0xE2, 0xF0}

// texts calls f with every text of n bytes out of some.
func texts(n int, some []byte, f func(b []byte)) {
	b := make([]byte, n)
	var fill func(i int)
	fill = func(i int) {
		if i == n {
			f(b)
			return
		}
		for _, x := range some {
			b[i] = x
			fill(i + 1)
		}
	}
	fill(0)
}

// mixed are n bytes out of some, the same each time, that follow no short rule.
func mixed(n int, seed uint32, some []byte) []byte {
	out := make([]byte, n)
	for i := range out {
		seed = seed*1664525 + 1013904223
		out[i] = some[int(seed>>16)%len(some)]
	}
	return out
}

// parted are the pieces of a text that is cut behind each byte whose bit is set.
func parted(b []byte, cuts int) [][]byte {
	var out [][]byte
	from := 0
	for i := 1; i < len(b); i++ {
		if cuts>>(i-1)&1 == 1 {
			out = append(out, b[from:i])
			from = i
		}
	}
	return append(out, b[from:])
}

func measures(pieces [][]byte) []api.Weld {
	var out []api.Weld
	for _, piece := range pieces {
		out = append(out, weld.Of(piece))
	}
	return out
}

// encodings: the first and the last of each row of the document's list, and some ordinary ones.
var encodings = []string{
	"\x00", "\x7f", "\xc2\x80", "\xc3\xa9", "\xdf\xbf",
	"\xe0\xa0\x80", "\xe0\xbf\xbf", "\xe1\x80\x80", "\xe2\x82\xac", "\xec\xbf\xbf", "\xed\x80\x80", "\xed\x9f\xbf", "\xee\x80\x80", "\xef\xbf\xbd", "\xef\xbf\xbf",
	"\xf0\x90\x80\x80", "\xf0\x9f\x98\x80", "\xf0\xbf\xbf\xbf", "\xf1\x80\x80\x80", "\xf3\xbf\xbf\xbf", "\xf4\x80\x80\x80", "\xf4\x8f\xbf\xbf",
}

func TestP5_1ExamplesOf(t *testing.T) {
	cases := []struct {
		text string
		want api.Weld
	}{
		{"", measure(sizes(0, 0, 0, 0), "", "")},
		{"\xc3", measure(sizes(1, 1, 1, 0), "\xc3", "\xc3")},
		{"\xa9\n", measure(sizes(2, 2, 2, 1), "\xa9\n", "\xa9\n")},
		{"\xc3\xa9\n", measure(sizes(3, 2, 2, 1), "\xc3\xa9\n", "\xc3\xa9\n")},
		{"\xf0\x9f", measure(sizes(2, 2, 2, 0), "\xf0\x9f", "\xf0\x9f")},
		{"\x98\x80\r", measure(sizes(3, 3, 3, 1), "\x98\x80\r", "\x98\x80\r")},
		{"\xf0\x9f\x98\x80\r", measure(sizes(5, 2, 3, 1), "\xf0\x9f\x98", "\x98\x80\r")},
		{"a\r", measure(sizes(2, 2, 2, 1), "a\r", "a\r")},
		{"\nb", measure(sizes(2, 2, 2, 1), "\nb", "\nb")},
		{"a\r\nb", measure(sizes(4, 4, 4, 1), "a\r\n", "\r\nb")},
		{"\xe2", measure(sizes(1, 1, 1, 0), "\xe2", "\xe2")},
		{"\xe2\x82\xac", measure(sizes(3, 1, 1, 0), "\xe2\x82\xac", "\xe2\x82\xac")},
		{"\xed\xa0\x80", measure(sizes(3, 3, 3, 0), "\xed\xa0\x80", "\xed\xa0\x80")},
		{"a\xf0\x9f\x98\x80\xe2\x82", measure(sizes(7, 4, 5, 0), "a\xf0\x9f", "\x80\xe2\x82")},
		{"\uFFFD\xff", measure(sizes(4, 2, 2, 0), "\xef\xbf\xbd", "\xbf\xbd\xff")},
		{"hello\r\n\rworld\n", measure(sizes(14, 14, 14, 3), "hel", "ld\n")},
		{"\r\r\n\n\n\r", measure(sizes(6, 6, 6, 5), "\r\r\n", "\n\n\r")},
		{"ñ€😀", measure(sizes(9, 3, 4, 0), "\xc3\xb1\xe2", "\x9f\x98\x80")},
		{"\uFFFF\U00010000", measure(sizes(7, 2, 3, 0), "\xef\xbf\xbf", "\x90\x80\x80")},
		{"\xf4\x8f\xbf\xbf\xf4\x90\x80\x80", measure(sizes(8, 5, 6, 0), "\xf4\x8f\xbf", "\x90\x80\x80")},
	}
	for _, c := range cases {
		if got := of(c.text); got != c.want {
			t.Errorf("Of(% x) is %s, want %s", c.text, tell(got), tell(c.want))
		}
		if got := weld.Sizes([]byte(c.text)); got != c.want.Sizes {
			t.Errorf("Sizes(% x) is %v, want %v", c.text, got, c.want.Sizes)
		}
		if !weld.Valid(c.want) {
			t.Errorf("Valid of the measure of % x is false", c.text)
		}
	}
	if got := weld.Of(nil); got != (api.Weld{}) {
		t.Errorf("Of(nil) is %s", tell(got))
	}
}

func TestP5_1ExamplesJoin(t *testing.T) {
	cases := []struct {
		a, b string
		want api.Weld
		seam api.Sizes
	}{
		{"\xc3", "\xa9\n", measure(sizes(3, 2, 2, 1), "\xc3\xa9\n", "\xc3\xa9\n"), sizes(0, 1, 1, 0)},
		{"\xf0\x9f", "\x98\x80\r", measure(sizes(5, 2, 3, 1), "\xf0\x9f\x98", "\x98\x80\r"), sizes(0, 3, 2, 0)},
		{"\xf0", "\x9f\x98\x80", measure(sizes(4, 1, 2, 0), "\xf0\x9f\x98", "\x9f\x98\x80"), sizes(0, 3, 2, 0)},
		{"\xf0\x9f\x98", "\x80", measure(sizes(4, 1, 2, 0), "\xf0\x9f\x98", "\x9f\x98\x80"), sizes(0, 3, 2, 0)},
		{"\xe2", "\x82\xac", measure(sizes(3, 1, 1, 0), "\xe2\x82\xac", "\xe2\x82\xac"), sizes(0, 2, 2, 0)},
		{"\xe2\x82", "\xac", measure(sizes(3, 1, 1, 0), "\xe2\x82\xac", "\xe2\x82\xac"), sizes(0, 2, 2, 0)},
		{"a\r", "\nb", measure(sizes(4, 4, 4, 1), "a\r\n", "\r\nb"), sizes(0, 0, 0, 1)},
		{"\n", "\r", measure(sizes(2, 2, 2, 2), "\n\r", "\n\r"), sizes(0, 0, 0, 0)},
		{"\r", "\r\n", measure(sizes(3, 3, 3, 2), "\r\r\n", "\r\r\n"), sizes(0, 0, 0, 0)},
		{"\r\n", "\n", measure(sizes(3, 3, 3, 2), "\r\n\n", "\r\n\n"), sizes(0, 0, 0, 0)},
		{"\r", "a\n", measure(sizes(3, 3, 3, 2), "\ra\n", "\ra\n"), sizes(0, 0, 0, 0)},
		{"\r\xc3", "\n", measure(sizes(3, 3, 3, 2), "\r\xc3\n", "\r\xc3\n"), sizes(0, 0, 0, 0)},
		{"\xed", "\xa0\x80", measure(sizes(3, 3, 3, 0), "\xed\xa0\x80", "\xed\xa0\x80"), sizes(0, 0, 0, 0)},
		{"\xed\xa0", "\x80", measure(sizes(3, 3, 3, 0), "\xed\xa0\x80", "\xed\xa0\x80"), sizes(0, 0, 0, 0)},
		{"\xe0", "\x9f\xbf", measure(sizes(3, 3, 3, 0), "\xe0\x9f\xbf", "\xe0\x9f\xbf"), sizes(0, 0, 0, 0)},
		{"\xf0\x8f", "\xbf\xbf", measure(sizes(4, 4, 4, 0), "\xf0\x8f\xbf", "\x8f\xbf\xbf"), sizes(0, 0, 0, 0)},
		{"\xf4", "\x90\x80\x80", measure(sizes(4, 4, 4, 0), "\xf4\x90\x80", "\x90\x80\x80"), sizes(0, 0, 0, 0)},
		{"\xf5\x80", "\x80\x80", measure(sizes(4, 4, 4, 0), "\xf5\x80\x80", "\x80\x80\x80"), sizes(0, 0, 0, 0)},
		{"\xc1", "\x80", measure(sizes(2, 2, 2, 0), "\xc1\x80", "\xc1\x80"), sizes(0, 0, 0, 0)},
		{"\xe2", "\x82", measure(sizes(2, 2, 2, 0), "\xe2\x82", "\xe2\x82"), sizes(0, 0, 0, 0)},
		{"\xe2\x82a", "\xac", measure(sizes(4, 4, 4, 0), "\xe2\x82a", "\x82a\xac"), sizes(0, 0, 0, 0)},
		{"\xf0\x9f", "\x98a", measure(sizes(4, 4, 4, 0), "\xf0\x9f\x98", "\x9f\x98a"), sizes(0, 0, 0, 0)},
		{"\xe2\x82\xac", "\x80", measure(sizes(4, 2, 2, 0), "\xe2\x82\xac", "\x82\xac\x80"), sizes(0, 0, 0, 0)},
		{"\xc3\xa9", "\xa9", measure(sizes(3, 2, 2, 0), "\xc3\xa9\xa9", "\xc3\xa9\xa9"), sizes(0, 0, 0, 0)},
		{"\xe2\xc3", "\xa9\xac", measure(sizes(4, 3, 3, 0), "\xe2\xc3\xa9", "\xc3\xa9\xac"), sizes(0, 1, 1, 0)},
		{"", "\xa9", measure(sizes(1, 1, 1, 0), "\xa9", "\xa9"), sizes(0, 0, 0, 0)},
		{"\xc3", "", measure(sizes(1, 1, 1, 0), "\xc3", "\xc3"), sizes(0, 0, 0, 0)},
		{"", "", measure(sizes(0, 0, 0, 0), "", ""), sizes(0, 0, 0, 0)},
		{"hello\xe2", "\x82\xacworld", measure(sizes(13, 11, 11, 0), "hel", "rld"), sizes(0, 2, 2, 0)},
		{"ab", "cdef", measure(sizes(6, 6, 6, 0), "abc", "def"), sizes(0, 0, 0, 0)},
		{"abcd", "ef", measure(sizes(6, 6, 6, 0), "abc", "def"), sizes(0, 0, 0, 0)},
	}
	for _, c := range cases {
		a, b := of(c.a), of(c.b)
		if got, err := weld.Join(a, b); got != c.want || err != api.OK {
			t.Errorf("Join of % x and % x is %s, %d, want %s", c.a, c.b, tell(got), err, tell(c.want))
		}
		if got, err := weld.Seam(a, b); got != c.seam || err != api.OK {
			t.Errorf("Seam of % x and % x is %v, %d, want %v", c.a, c.b, got, err, c.seam)
		}
		if got, err := weld.Sum([]api.Weld{a, b}); got != c.want || err != api.OK {
			t.Errorf("Sum of % x and % x is %s, %d, want %s", c.a, c.b, tell(got), err, tell(c.want))
		}
	}
	parts := []api.Weld{of("\xe2"), of("\x82"), of("\xac")}
	if got, err := weld.Sum(parts); got.Sizes != sizes(3, 1, 1, 0) || err != api.OK {
		t.Errorf("Sum of e2, 82, ac is %s, %d", tell(got), err)
	}
}

func TestP5_1SumOfNothing(t *testing.T) {
	for _, l := range [][]api.Weld{nil, {}, make([]api.Weld, 0, 4), {{}}, {{}, {}, {}}} {
		if got, err := weld.Sum(l); got != (api.Weld{}) || err != api.OK {
			t.Errorf("Sum(%s) is %s, %d", tellAll(l), tell(got), err)
		}
	}
}

func TestP5_1OfEveryShortText(t *testing.T) {
	hold := func(b []byte) {
		want := measureOf(b)
		if got := weld.Of(b); got != want {
			t.Fatalf("Of(% x) is %s, want %s", b, tell(got), tell(want))
		}
		if got := weld.Sizes(b); got != want.Sizes {
			t.Fatalf("Sizes(% x) is %v, want %v", b, got, want.Sizes)
		}
	}
	every := make([]byte, 256)
	for i := range every {
		every[i] = byte(i)
	}
	for n := range 3 {
		texts(n, every, hold)
	}
	texts(3, edgeBytes, hold)
	texts(4, fewBytes, hold)
	texts(5, leastBytes, hold)
}

func TestP5_1OfLongTexts(t *testing.T) {
	for n := 6; n < 3000; n = n*3/2 + 1 {
		for seed := range uint32(20) {
			for _, some := range [][]byte{edgeBytes, fewBytes, leastBytes} {
				b := mixed(n, seed, some)
				if got, want := weld.Of(b), measureOf(b); got != want {
					t.Fatalf("Of(% x) is %s, want %s", b, tell(got), tell(want))
				}
			}
		}
	}
}

// The greatest text that has a measure, and one byte more.
func TestP5_1GreatTexts(t *testing.T) {
	b := make([]byte, api.MaxText+1)
	half := api.MaxText / 2
	copy(b[half-2:], "\xf0\x9f\x98\x80")
	copy(b[api.MaxText-4:], "a\n\n\r\n")
	want := measure(sizes(api.MaxText, api.MaxText-3, api.MaxText-2, 3), "\x00\x00\x00", "\n\n\r")
	all := weld.Of(b[:api.MaxText])
	if all != want {
		t.Fatalf("Of the greatest text is %s, want %s", tell(all), tell(want))
	}
	if got := weld.Of(b); got != (api.Weld{}) {
		t.Errorf("Of one byte more is %s", tell(got))
	}
	if got, want := weld.Sizes(b), sizes(api.MaxText+1, api.MaxText-2, api.MaxText-1, 3); got != want {
		t.Errorf("Sizes of one byte more are %v, want %v", got, want)
	}
	if !weld.Valid(all) {
		t.Error("the measure of the greatest text may not be")
	}
	ahead, behind, beyond := weld.Of(b[:half]), weld.Of(b[half:api.MaxText]), weld.Of(b[half:])
	if got, err := holdJoin(t, ahead, behind); got != all || err != api.OK {
		t.Errorf("Join of both halves is %s, %d, want %s", tell(got), err, tell(all))
	}
	if got, err := weld.Sum([]api.Weld{ahead, behind, {}}); got != all || err != api.OK {
		t.Errorf("Sum of both halves is %s, %d, want %s", tell(got), err, tell(all))
	}
	if got, err := holdJoin(t, ahead, beyond); got != (api.Weld{}) || err != api.ErrLong {
		t.Errorf("Join to one byte more is %s, %d", tell(got), err)
	}
}

func TestP5_1ValidExamples(t *testing.T) {
	const least, greatest = math.MinInt, math.MaxInt
	cases := []struct {
		w    api.Weld
		want bool
	}{
		{api.Weld{}, true},
		{measure(sizes(1, 1, 1, 0), "\xc3", "\xa9"), false},
		{measure(sizes(2, 1, 1, 0), "\xc3a", "\xc3a"), false},
		{measure(sizes(7, 1, 1, 0), "aaa", "aaa"), false},
		{measure(sizes(8, 2, 4, 0), "\xf0\x9f\x98", "\x9f\x98\x80"), true},

		// A Head or a Tail of another length than the sizes ask.
		{measure(sizes(0, 0, 0, 0), "a", ""), false},
		{measure(sizes(0, 0, 0, 0), "", "a"), false},
		{measure(sizes(1, 1, 1, 0), "", "a"), false},
		{measure(sizes(1, 1, 1, 0), "a", ""), false},
		{measure(sizes(1, 1, 1, 0), "a", "a"), true},
		{measure(sizes(1, 1, 1, 0), "aa", "aa"), false},
		{measure(sizes(2, 2, 2, 0), "aa", "aa"), true},
		{measure(sizes(2, 2, 2, 0), "aaa", "aa"), false},
		{measure(sizes(2, 2, 2, 0), "aa", "a"), false},
		{measure(sizes(4, 4, 4, 0), "aaa", "aa"), false},
		{measure(sizes(4, 4, 4, 0), "aaaa", "aaaa"), false},
		{measure(sizes(4, 4, 4, 0), "aa", "aaa"), false},
		{measure(sizes(7, 7, 7, 0), "aaa", "aa"), false},
		{measure(sizes(7, 7, 7, 0), "aa", "aaa"), false},
		{measure(sizes(7, 7, 7, 0), "aaaa", "aaa"), false},
		{measure(sizes(7, 7, 7, 0), "aaa", "aaaa"), false},
		{measure(sizes(7, 7, 7, 0), "", ""), false},
		{measure(sizes(7, 7, 7, 0), "aaa", "aaa"), true},

		// A Head and a Tail that do not agree where they overlap.
		{measure(sizes(2, 2, 2, 0), "ab", "ba"), false},
		{measure(sizes(3, 3, 3, 0), "abc", "abd"), false},
		{measure(sizes(4, 4, 4, 0), "abc", "bcd"), true},
		{measure(sizes(4, 4, 4, 0), "abc", "bdc"), false},
		{measure(sizes(4, 4, 4, 0), "abc", "abc"), false},
		{measure(sizes(5, 5, 5, 0), "abc", "cde"), true},
		{measure(sizes(5, 5, 5, 0), "abc", "dde"), false},
		{measure(sizes(6, 6, 6, 0), "abc", "def"), true},

		// Sizes that are not those of the bytes up to six.
		{measure(sizes(6, 6, 6, 1), "abc", "def"), false},
		{measure(sizes(6, 6, 6, -1), "abc", "def"), false},
		{measure(sizes(6, 5, 5, 0), "abc", "def"), false},
		{measure(sizes(6, 6, 7, 0), "abc", "def"), false},
		{measure(sizes(6, 4, 4, 1), "ab\xe2", "\x82\xac\n"), true},
		{measure(sizes(6, 6, 6, 1), "ab\xe2", "\x82\xac\n"), false},
		{measure(sizes(6, 6, 6, 1), "ab\r", "\nab"), true},
		{measure(sizes(6, 6, 6, 2), "ab\r", "\nab"), false},
		{measure(sizes(4, 1, 2, 0), "\xf0\x9f\x98", "\x9f\x98\x80"), true},
		{measure(sizes(4, 1, 1, 0), "\xf0\x9f\x98", "\x9f\x98\x80"), false},
		{measure(sizes(0, 1, 1, 0), "", ""), false},
		{measure(sizes(0, 0, 0, 1), "", ""), false},

		// Seven bytes and more, at the bounds and one beyond them.
		{measure(sizes(7, 3, 3, 0), "aaa", "aaa"), true},
		{measure(sizes(7, 2, 2, 0), "aaa", "aaa"), false},
		{measure(sizes(7, 2, 3, 0), "aaa", "aaa"), true},
		{measure(sizes(7, 1, 2, 0), "aaa", "aaa"), false},
		{measure(sizes(7, 4, 5, 0), "aaa", "aaa"), true},
		{measure(sizes(7, 5, 6, 0), "aaa", "aaa"), false},
		{measure(sizes(7, 8, 8, 0), "aaa", "aaa"), false},
		{measure(sizes(7, 7, 6, 0), "aaa", "aaa"), false},
		{measure(sizes(7, 7, 7, 7), "aaa", "aaa"), true},
		{measure(sizes(7, 7, 7, 8), "aaa", "aaa"), false},
		{measure(sizes(7, 7, 7, -1), "aaa", "aaa"), false},
		{measure(sizes(8, 2, 4, 2), "aaa", "aaa"), true},
		{measure(sizes(8, 2, 4, 3), "aaa", "aaa"), false},
		{measure(sizes(8, 1, 3, 0), "aaa", "aaa"), false},
		{measure(sizes(9, 2, 4, 0), "aaa", "aaa"), false},
		{measure(sizes(9, 3, 3, 0), "aaa", "aaa"), true},
		{measure(sizes(10, 3, 3, 0), "aaa", "aaa"), false},

		// Negative ones, the greatest and the least of an int, more than MaxText.
		{measure(sizes(-1, 0, 0, 0), "", ""), false},
		{measure(sizes(-1, -1, -1, 0), "", ""), false},
		{measure(sizes(least, 0, 0, 0), "", ""), false},
		{measure(sizes(greatest, greatest, greatest, 0), "aaa", "aaa"), false},
		{measure(sizes(7, -1, -1, 0), "aaa", "aaa"), false},
		{measure(sizes(7, 0, 0, 0), "aaa", "aaa"), false},
		{measure(sizes(8, least, 1<<62, 0), "aaa", "aaa"), false},
		{measure(sizes(8, least, least, 0), "aaa", "aaa"), false},
		{measure(sizes(8, greatest, greatest, 0), "aaa", "aaa"), false},
		{measure(sizes(8, greatest, least, 0), "aaa", "aaa"), false},
		{measure(sizes(8, least, greatest, 0), "aaa", "aaa"), false},
		{measure(sizes(8, 8, 8, least), "aaa", "aaa"), false},
		{measure(sizes(8, 8, 8, greatest), "aaa", "aaa"), false},
		{measure(sizes(1<<28, 1<<28, 1<<28, 1<<28), "aaa", "aaa"), true},
		{measure(sizes(1<<28, 1<<26, 1<<27, 0), "aaa", "aaa"), true},
		{measure(sizes(1<<28, 1<<26, 1<<27+1, 0), "aaa", "aaa"), false},
		{measure(sizes(1<<28, 1<<26-1, 1<<27, 0), "aaa", "aaa"), false},
		{measure(sizes(1<<28+1, 1<<28, 1<<28, 0), "aaa", "aaa"), false},
		{measure(sizes(1<<28+1, 1<<28+1, 1<<28+1, 0), "aaa", "aaa"), false},
		{measure(sizes(1<<28, 1<<28+1, 1<<28+1, 0), "aaa", "aaa"), false},
		// Numbers that come out right where an int wraps round: 4 * 2^62 is 0, and so on.
		{measure(sizes(8, 8, 8+1<<62, 0), "aaa", "aaa"), false},
		{measure(sizes(8, 1<<62, 1<<62, 0), "aaa", "aaa"), false},
		{measure(sizes(8, 1<<62, greatest, 0), "aaa", "aaa"), false},
		{measure(sizes(8, least+8, least+8, 0), "aaa", "aaa"), false},
	}
	for _, c := range cases {
		if got := weld.Valid(c.w); got != c.want {
			t.Errorf("Valid(%s) is %v, want %v", tell(c.w), got, c.want)
		}
		if mayBe(c.w) != c.want {
			t.Errorf("this test's model is wrong of %s", tell(c.w))
		}
	}
}

// Each measure of a short text, and those beside it: one number, one byte or one length other than it is.
func TestP5_1ValidBesideShortTexts(t *testing.T) {
	beside := func(b []byte) {
		w := measureOf(b)
		holdValid(t, w)
		for _, by := range []int{-2, -1, 1, 2} {
			for field := range 4 {
				x := w
				*[]*int{&x.Sizes.Bytes, &x.Sizes.Runes, &x.Sizes.Units, &x.Sizes.Ends}[field] += by
				holdValid(t, x)
			}
			both := w
			both.Sizes.Runes += by
			both.Sizes.Units += by
			holdValid(t, both)
		}
		for i := range len(w.Head) {
			for _, x := range []byte{0x0A, 0x41, 0x90, 0xC2} {
				other := []byte(w.Head)
				other[i] = x
				holdValid(t, measure(w.Sizes, string(other), w.Tail))
				other = []byte(w.Tail)
				other[i] = x
				holdValid(t, measure(w.Sizes, w.Head, string(other)))
			}
		}
		for _, s := range []string{"", "a", w.Head + "a", "a" + w.Tail, string(b), strings.Repeat("a", 1000)} {
			holdValid(t, measure(w.Sizes, s, w.Tail))
			holdValid(t, measure(w.Sizes, w.Head, s))
			holdValid(t, measure(w.Sizes, s, s))
		}
	}
	for n := range 4 {
		texts(n, fewBytes, beside)
	}
	for n := 4; n <= 5; n++ {
		texts(n, leastBytes, beside)
	}
	for n := 6; n <= 9; n++ {
		for seed := range uint32(300) {
			beside(mixed(n, seed, leastBytes))
		}
	}
}

// Heads and Tails without regard to one another, up to and over the length at which they say all.
func TestP5_1ValidEveryHeadAndTail(t *testing.T) {
	some := []byte{'a', '\n', 0xC2, 0x90}
	var ends []string
	for n := range 5 {
		texts(n, some, func(b []byte) { ends = append(ends, string(b)) })
	}
	for n := range 8 {
		for _, head := range ends {
			if len(head) < min(n, 3)-1 {
				continue
			}
			for _, tail := range ends {
				z := sizesOf([]byte(firstThree(head) + lastThree(tail)[max(0, min(len(tail), 3)-max(0, n-3)):]))
				z.Bytes = n
				holdValid(t, measure(z, head, tail))
			}
		}
	}
}

func TestP5_1ValidEverySizes(t *testing.T) {
	for n := 6; n <= 14; n++ {
		for r := -2; r <= n+2; r++ {
			for u := -2; u <= n+3; u++ {
				for _, e := range []int{-1, 0, 1, r - 1, r, r + 1} {
					holdValid(t, measure(sizes(n, r, u, e), "abc", "def"))
				}
			}
		}
	}
}

// All sizes out of those at which something may go over, be it a bound or an int.
func TestP5_1ValidExtremeSizes(t *testing.T) {
	const top = api.MaxText
	near := []int{
		math.MinInt, math.MinInt + 1, math.MinInt + 8, math.MinInt / 2, math.MinInt / 4, -1 << 32, -top, -7, -1,
		0, 1, 2, 3, 6, 7, 8, top / 4, top/4 + 1, top / 3, top/3 + 1, top / 2, top/2 + 1, top - 1, top, top + 1,
		1 << 32, 1 << 60, 1 << 61, 1<<62 - 1, 1 << 62, 1<<62 + 8, math.MaxInt - 8, math.MaxInt - 1, math.MaxInt,
	}
	good := 0
	for _, n := range near {
		ends := strings.Repeat("a", max(0, min(n, 3)))
		for _, r := range near {
			for _, u := range near {
				for _, e := range []int{math.MinInt, -1, 0, 1, r, math.MaxInt} {
					w := measure(sizes(n, r, u, e), ends, ends)
					holdValid(t, w)
					if mayBe(w) {
						good++
					}
				}
			}
		}
	}
	if good < 20 {
		t.Errorf("this test saw %d that may be", good)
	}
}

// pool are measures of texts and made-up ones, ones that may be and ones that may not.
func pool() []api.Weld {
	const top = api.MaxText
	var out []api.Weld
	for _, s := range []string{
		"", "a", "\r", "\n", "\xe2", "\x82", "\xac", "\x82\xac", "\xe2\x82", "\xf0", "\x9f\x98\x80", "\xf0\x9f\x98", "\x80", "\xed", "\xa0\x80", "a\r", "\nb",
		"abc\xe2", "\x82\xacdef", "\xc2\xc2\xc2", "\x80\x80\x80", "hello world\r", "\nhello world", "hello\xf0\x9f", "\x98\x80hello", "ñ€😀ñ€😀",
	} {
		out = append(out, measureOf([]byte(s)))
	}
	ends := []string{"abc", "\xe2\x82\xac", "\x82\xacd", "\xacab", "\x80ab", "ab\xe2", "a\xe2\x82", "\xf0\x9f\x98", "\x9f\x98\x80", "ab\r", "\nab"}
	numbers := []api.Sizes{
		sizes(7, 3, 3, 0), sizes(7, 7, 7, 7), sizes(7, 5, 5, 5), sizes(8, 2, 4, 0), sizes(8, 8, 8, 0), sizes(9, 3, 3, 3), sizes(12, 3, 6, 1), sizes(7, 2, 3, 2),
		sizes(top, top, top, top), sizes(top, top/4, top/2, 0), sizes(top-7, top-7, top-7, 0), sizes(top-8, top-8, top-8, 0), sizes(top/2, top/2, top/2, 1),
		sizes(7, 2, 2, 0), sizes(6, 6, 6, 0), sizes(7, 7, 7, 8), sizes(7, 7, 7, -1), sizes(top+1, top+1, top+1, 0), sizes(-1, -1, -1, -1),
		sizes(math.MaxInt, math.MaxInt, math.MaxInt, math.MaxInt), sizes(math.MinInt, math.MinInt, math.MinInt, math.MinInt), sizes(8, math.MinInt, 1<<62, 0),
	}
	for _, z := range numbers {
		for _, head := range ends {
			for _, tail := range []string{"abc", "ab\xe2", "a\xe2\x82", "\xf0\x9f\x98", "ab\r"} {
				out = append(out, measure(z, head, tail))
			}
		}
	}
	return append(out,
		measure(sizes(1, 1, 1, 0), "\xc3", "\xa9"), measure(sizes(2, 1, 1, 0), "\xc3a", "\xc3a"), measure(sizes(4, 4, 4, 0), "abc", "bdc"),
		measure(sizes(7, 7, 7, 0), "ab", "abc"), measure(sizes(7, 7, 7, 0), "abc", "abcd"), measure(sizes(0, 0, 0, 0), "a", "a"))
}

// P5.1 of Join and Seam, with all their errors; and P5.5 of made-up measures too.
func TestP5_1JoinEveryPair(t *testing.T) {
	seen := map[api.Errno]int{}
	late := 0
	all := pool()
	for _, a := range all {
		for _, b := range all {
			w, err := holdJoin(t, a, b)
			seen[err]++
			if err == api.ErrWeld && mayBe(a) && mayBe(b) {
				late++
			}
			if err == api.OK && !weld.Valid(w) {
				t.Fatalf("Join(%s, %s) is %s, which may not be", tell(a), tell(b), tell(w))
			}
		}
	}
	if seen[api.OK] < 1000 || seen[api.ErrWeld] < 1000 || seen[api.ErrLong] < 1000 || late < 100 {
		t.Errorf("this test saw %v, %d of them late", seen, late)
	}
}

func TestP5_1ErrorsInTheirOrder(t *testing.T) {
	const top = api.MaxText
	good := of("ab")
	none := measure(sizes(1, 1, 1, 0), "a", "b")
	great := measure(sizes(top, top, top, 0), "abc", "abc")
	tooGreat := measure(sizes(top+1, top+1, top+1, 0), "abc", "abc")
	carriage := measure(sizes(7, 7, 7, 0), "abc", "ab\r")
	feed := measure(sizes(7, 7, 7, 0), "\nbc", "abc")
	greatFeed := measure(sizes(top, top, top, 0), "\nbc", "abc")
	euro := measure(sizes(7, 3, 3, 0), "abc", "a\xe2\x82")
	ended := measure(sizes(7, 5, 5, 5), "abc", "a\xe2\x82")
	cases := []struct {
		what string
		a, b api.Weld
		want api.Errno
	}{
		{"both may be", good, good, api.OK},
		{"a may not be", none, good, api.ErrWeld},
		{"b may not be", good, none, api.ErrWeld},
		{"neither may be", none, none, api.ErrWeld},
		{"nothing and one that may not be", api.Weld{}, none, api.ErrWeld},
		{"too long", great, good, api.ErrLong},
		{"too long the other way", good, great, api.ErrLong},
		{"too long by one", great, of("a"), api.ErrLong},
		{"the greatest, and nothing", great, api.Weld{}, api.OK},
		{"nothing, and the greatest", api.Weld{}, great, api.OK},
		{"the greatest with two bytes less, and two", measure(sizes(top-2, top-2, top-2, 0), "abc", "abc"), good, api.OK},
		{"a may not be, and both are too long", none, great, api.ErrWeld},
		{"b may not be, and both are too long", great, none, api.ErrWeld},
		{"one alone is too long: it may not be", tooGreat, api.Weld{}, api.ErrWeld},
		{"one alone is too long, behind nothing", api.Weld{}, tooGreat, api.ErrWeld},
		{"fewer line ends than none", carriage, feed, api.ErrWeld},
		{"fewer line ends than none, but too long ahead of that", carriage, greatFeed, api.ErrLong},
		{"one line end", carriage, of("\n"), api.OK},
		{"fewer runes than may be", euro, of("\xac"), api.ErrWeld},
		{"more line ends than runes", ended, of("\xac"), api.ErrWeld},
		{"as many line ends as runes", measure(sizes(7, 5, 5, 4), "abc", "a\xe2\x82"), of("\xac"), api.OK},
		{"more fours than runes", measure(sizes(7, 3, 3, 0), "abc", "\xf0\x9f\x98"), of("\x80"), api.ErrWeld},
	}
	for _, c := range cases {
		w, err := holdJoin(t, c.a, c.b)
		if err != c.want {
			t.Errorf("%s: Join's error is %d, want %d", c.what, err, c.want)
		}
		seam, err := weld.Seam(c.a, c.b)
		if err != c.want {
			t.Errorf("%s: Seam's error is %d, want %d", c.what, err, c.want)
		}
		if c.want != api.OK && (w != (api.Weld{}) || seam != (api.Sizes{})) {
			t.Errorf("%s: beside the error stand %s and %v", c.what, tell(w), seam)
		}
	}
}

func TestP5_1SumErrors(t *testing.T) {
	const top = api.MaxText
	good := of("ab")
	none := measure(sizes(1, 1, 1, 0), "a", "b")
	great := measure(sizes(top-1, top-1, top-1, 0), "abc", "abc")
	carriage := measure(sizes(7, 7, 7, 0), "abc", "ab\r")
	feed := measure(sizes(7, 7, 7, 0), "\nbc", "abc")
	cases := []struct {
		list []api.Weld
		want api.Errno
	}{
		{[]api.Weld{none}, api.ErrWeld},
		{[]api.Weld{none, good}, api.ErrWeld},
		{[]api.Weld{good, none}, api.ErrWeld},
		{[]api.Weld{good, none, good}, api.ErrWeld},
		{[]api.Weld{great}, api.OK},
		{[]api.Weld{great, good}, api.ErrLong},
		{[]api.Weld{good, great}, api.ErrLong},
		{[]api.Weld{great, of("a")}, api.OK},
		{[]api.Weld{great, of("a"), of("a")}, api.ErrLong},
		{[]api.Weld{great, good, none}, api.ErrLong},
		{[]api.Weld{none, great, good}, api.ErrWeld},
		{[]api.Weld{great, none, good}, api.ErrWeld},
		{[]api.Weld{carriage, feed}, api.ErrWeld},
		{[]api.Weld{carriage, feed, great}, api.ErrWeld},
		{[]api.Weld{carriage, great, feed}, api.ErrLong},
		{[]api.Weld{of("\r"), carriage, of("\n"), feed}, api.OK},
	}
	for i, c := range cases {
		got, err := weld.Sum(c.list)
		if err != c.want || err != api.OK && got != (api.Weld{}) {
			t.Errorf("Sum of list %d is %s, %d, want %d", i, tell(got), err, c.want)
		}
	}
}

// What Sum answers is what Join answers, one behind the other from no bytes on, also of made-up measures.
func TestP5_1SumIsJoinByJoin(t *testing.T) {
	all := pool()
	seed := uint32(1)
	for range 20000 {
		var list []api.Weld
		var want api.Weld
		wantErr := api.OK
		for range 4 {
			seed = seed*1664525 + 1013904223
			w := all[int(seed>>8)%len(all)]
			list = append(list, w)
			if wantErr == api.OK {
				want, _, wantErr = joinOf(want, w)
			}
		}
		if got, err := weld.Sum(list); got != want || err != wantErr {
			t.Fatalf("Sum(%s) is %s, %d, want %s, %d", tellAll(list), tell(got), err, tell(want), wantErr)
		}
	}
}

// holdCuts cuts a text at each place and at each two.
func holdCuts(t *testing.T, b []byte) {
	t.Helper()
	all := weld.Of(b)
	for i := 0; i <= len(b); i++ {
		ahead, behind := weld.Of(b[:i]), weld.Of(b[i:])
		got, err := weld.Join(ahead, behind)
		if got != all || err != api.OK {
			t.Fatalf("% x cut at %d: Join is %s, %d, want %s", b, i, tell(got), err, tell(all))
		}
		want := sizes(0, ahead.Sizes.Runes+behind.Sizes.Runes-all.Sizes.Runes, ahead.Sizes.Units+behind.Sizes.Units-all.Sizes.Units, ahead.Sizes.Ends+behind.Sizes.Ends-all.Sizes.Ends)
		if seam, err := weld.Seam(ahead, behind); seam != want || err != api.OK {
			t.Fatalf("% x cut at %d: Seam is %v, %d, want %v", b, i, seam, err, want)
		}
		for j := i; j <= len(b); j++ {
			got, err := weld.Sum([]api.Weld{ahead, weld.Of(b[i:j]), weld.Of(b[j:])})
			if got != all || err != api.OK {
				t.Fatalf("% x cut at %d and %d: Sum is %s, %d, want %s", b, i, j, tell(got), err, tell(all))
			}
		}
	}
}

func TestP5_2EveryCutOfShortTexts(t *testing.T) {
	cut := func(b []byte) { holdCuts(t, b) }
	for n := range 3 {
		texts(n, edgeBytes, cut)
	}
	texts(3, fewBytes, cut)
	texts(4, []byte{0x0A, 0x0D, 0x90, 0xA0, 0xC2, 0xE2, 0xED, 0xF0}, cut)
	texts(5, leastBytes, cut)
	for n := 6; n <= 8; n++ {
		for seed := range uint32(800) {
			cut(mixed(n, seed, leastBytes))
			cut(mixed(n, seed, edgeBytes))
		}
	}
	for _, s := range []string{"a\r\nb\r\nc\n", "\r\n\r\n\r\n\r\n", "\xe2\x82\xac\xf0\x9f\x98\x80", "\xf0\x9f\x98\x80\xf0\x9f\x98\x80", "\xc3\xa9\xc3\xa9\xc3\xa9\xc3\xa9", "\xf0\x9f\x98\xe2\x82\xc3\xa9\xff"} {
		cut([]byte(s))
	}
}

func TestP5_2EncodingsParted(t *testing.T) {
	rims := []string{"", "a", "\r", "\n", "\xe2", "\x80", "\xf0\x9f", "hello", "\xc3\xa9"}
	for _, encoding := range encodings {
		for cuts := range 1 << (len(encoding) - 1) {
			for _, ahead := range rims {
				for _, behind := range rims {
					pieces := parted([]byte(encoding), cuts)
					pieces[0] = slices.Concat([]byte(ahead), pieces[0])
					last := len(pieces) - 1
					pieces[last] = slices.Concat(pieces[last], []byte(behind))
					text := bytes.Join(pieces, nil)
					if got, err := weld.Sum(measures(pieces)); got != measureOf(text) || err != api.OK {
						t.Fatalf("Sum of % x is %s, %d, want %s", pieces, tell(got), err, tell(measureOf(text)))
					}
				}
			}
		}
	}
}

// The seam of each encoding at each of its places, and what is left of it where one byte of it is another.
func TestP5_2SeamOfEncodings(t *testing.T) {
	for _, encoding := range encodings {
		r, _ := utf8.DecodeRuneInString(encoding)
		want := sizes(0, len(encoding)-1, len(encoding)-1, 0)
		if r > 0xFFFF {
			want.Units--
		}
		for k := 1; k < len(encoding); k++ {
			for _, ahead := range []string{"", "a", "abcdef", "\x80\x80\x80\x80", "\xe2\x82", "\r\n"} {
				for _, behind := range []string{"", "a", "abcdef", "\x80\x80\x80\x80", "\xe2\x82", "\r\n"} {
					a, b := of(ahead+encoding[:k]), of(encoding[k:]+behind)
					if got, err := weld.Seam(a, b); got != want || err != api.OK {
						t.Fatalf("Seam of % x and % x is %v, %d, want %v", ahead+encoding[:k], encoding[k:]+behind, got, err, want)
					}
				}
			}
			for i := range len(encoding) {
				for _, x := range edgeBytes {
					other := []byte(encoding)
					other[i] = x
					holdJoin(t, weld.Of(other[:k]), weld.Of(other[k:]))
				}
			}
		}
	}
}

func TestP5_2EveryPartingOfTexts(t *testing.T) {
	for n := 1; n <= 8; n++ {
		for seed := range uint32(60) {
			b := mixed(n, seed, leastBytes)
			for cuts := range 1 << (n - 1) {
				if got, err := weld.Sum(measures(parted(b, cuts))); got != measureOf(b) || err != api.OK {
					t.Fatalf("Sum of % x is %s, %d, want %s", parted(b, cuts), tell(got), err, tell(measureOf(b)))
				}
			}
		}
	}
}

func TestP5_2LongTexts(t *testing.T) {
	for seed := range uint32(18) {
		b := mixed(4000, seed, [][]byte{leastBytes, fewBytes, edgeBytes}[seed%3])
		for _, most := range []int{1, 2, 3, 4, 5, 7, 100, 4096} {
			var pieces [][]byte
			for left := b; len(left) > 0; {
				n := min(len(left), most)
				pieces = append(pieces, left[:n], nil)
				left = left[n:]
			}
			if got, err := weld.Sum(measures(pieces)); got != measureOf(b) || err != api.OK {
				t.Fatalf("Sum of pieces of %d is %s, %d, want %s", most, tell(got), err, tell(measureOf(b)))
			}
		}
	}
}

func TestP5_3Associative(t *testing.T) {
	var some []api.Weld
	for n := range 4 {
		texts(n, leastBytes, func(b []byte) {
			if n < 3 || b[0] > 0x80 {
				some = append(some, weld.Of(b))
			}
		})
	}
	for seed := range uint32(20) {
		some = append(some, weld.Of(mixed(7+int(seed), seed, leastBytes)))
	}
	join := func(a, b api.Weld) api.Weld {
		w, err := weld.Join(a, b)
		if err != api.OK {
			t.Fatalf("Join(%s, %s): %d", tell(a), tell(b), err)
		}
		return w
	}
	for _, a := range some {
		for i, b := range some {
			both := join(a, b)
			for j := i % 20; j < len(some); j += 20 {
				c := some[j]
				if left, right := join(both, c), join(a, join(b, c)); left != right {
					t.Fatalf("%s, %s, %s: %s, but from the last on %s", tell(a), tell(b), tell(c), tell(left), tell(right))
				}
			}
		}
	}
}

func TestP5_3NothingChangesNothing(t *testing.T) {
	for _, w := range pool() {
		if !mayBe(w) {
			continue
		}
		if got, err := weld.Join(api.Weld{}, w); got != w || err != api.OK {
			t.Errorf("behind nothing %s is %s, %d", tell(w), tell(got), err)
		}
		if got, err := weld.Join(w, weld.Of(nil)); got != w || err != api.OK {
			t.Errorf("ahead of nothing %s is %s, %d", tell(w), tell(got), err)
		}
		if got, err := weld.Seam(w, api.Weld{}); got != (api.Sizes{}) || err != api.OK {
			t.Errorf("the seam of %s and nothing is %v, %d", tell(w), got, err)
		}
		if got, err := weld.Sum([]api.Weld{w}); got != w || err != api.OK {
			t.Errorf("the sum of %s alone is %s, %d", tell(w), tell(got), err)
		}
	}
}

func TestP5_4MeasuresMayBe(t *testing.T) {
	hold := func(b []byte) {
		w := weld.Of(b)
		z := w.Sizes
		if !weld.Valid(w) {
			t.Fatalf("Valid(Of(% x)) is false", b)
		}
		if z.Bytes != len(b) || z.Runes > z.Bytes || z.Units < z.Runes || z.Units > z.Bytes || z.Ends < 0 || z.Ends > z.Runes {
			t.Fatalf("the sizes of % x are %v", b, z)
		}
	}
	for n := range 4 {
		texts(n, edgeBytes, hold)
	}
	texts(5, fewBytes[:8], hold)
	for n := 5; n <= 9; n++ {
		for seed := range uint32(2000) {
			hold(mixed(n, seed, leastBytes))
			hold(mixed(n, seed, edgeBytes))
		}
	}
	// Texts of steps of one kind alone lie at the bounds.
	for _, encoding := range append(encodings, "\r", "\n", "\r\n", "\xff", "\xe2\x82") {
		for n := range 12 {
			hold([]byte(strings.Repeat(encoding, n)))
		}
	}
}

func TestP5_5BoundsOfTheSeam(t *testing.T) {
	var greatest api.Sizes
	all := pool()
	for _, encoding := range encodings {
		for k := 1; k < len(encoding); k++ {
			all = append(all, of(encoding[:k]), of(encoding[k:]))
		}
	}
	for _, a := range all {
		for _, b := range all {
			seam, err := weld.Seam(a, b)
			if err != api.OK {
				continue
			}
			if seam.Bytes != 0 || seam.Runes < 0 || seam.Units < 0 || seam.Ends < 0 {
				t.Fatalf("Seam(%s, %s) is %v", tell(a), tell(b), seam)
			}
			greatest.Runes = max(greatest.Runes, seam.Runes)
			greatest.Units = max(greatest.Units, seam.Units)
			greatest.Ends = max(greatest.Ends, seam.Ends)
			if w, err := weld.Join(a, b); err != api.OK || !weld.Valid(w) {
				t.Fatalf("Join(%s, %s) is %s, %d", tell(a), tell(b), tell(w), err)
			}
		}
	}
	if want := sizes(0, 3, 2, 1); greatest != want {
		t.Errorf("the greatest seams are %v, want %v", greatest, want)
	}
}

func TestP5_6BytesStay(t *testing.T) {
	for n := range 20 {
		room := mixed(n+10, uint32(n), leastBytes)
		before := bytes.Clone(room)
		b := room[:n]
		w := weld.Of(b)
		z := weld.Sizes(b)
		if !bytes.Equal(room, before) {
			t.Fatalf("% x became % x", before, room)
		}
		if want := measureOf(before[:n]); w != want || z != want.Sizes {
			t.Fatalf("with room behind them % x have %s", before[:n], tell(w))
		}
		for i := range room {
			room[i] = 0xF0
		}
		if want := measureOf(before[:n]); w != want {
			t.Fatalf("when the bytes were written over, Of(% x) became %s", before[:n], tell(w))
		}
		if got := weld.Of(b); got != measureOf(b) {
			t.Fatalf("Of still answers what the bytes were: %s", tell(got))
		}
	}
}

func TestP5_6MeasuresStay(t *testing.T) {
	room := []api.Weld{of("\xe2"), of("\x82"), of("\xac\r"), of("\nhello world"), of("not in the list"), {}}
	before := slices.Clone(room)
	list := room[:4]
	want := of("\xe2\x82\xac\r\nhello world")
	got, err := weld.Sum(list)
	if got != want || err != api.OK {
		t.Fatalf("Sum is %s, %d, want %s", tell(got), err, tell(want))
	}
	if _, err := weld.Sum(append(list[:3:3], measure(sizes(1, 1, 1, 0), "a", "b"))); err != api.ErrWeld {
		t.Errorf("Sum with one that may not be: %d", err)
	}
	if !slices.Equal(room, before) {
		t.Errorf("Sum has changed the list or the room behind it")
	}
	a, b := room[0], room[1]
	joined, _ := weld.Join(a, b)
	if a != before[0] || b != before[1] {
		t.Errorf("Join has changed a measure")
	}
	clear(room)
	a, b = api.Weld{}, api.Weld{}
	if got != want || joined != of("\xe2\x82") || a != b {
		t.Errorf("when the list was written over, Sum became %s, Join %s", tell(got), tell(joined))
	}
	if again, err := weld.Sum(before[:4]); again != want || err != api.OK {
		t.Errorf("Sum again is %s, %d", tell(again), err)
	}
}
