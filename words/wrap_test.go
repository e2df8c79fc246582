package words_test

import (
	"slices"
	"strings"
	"testing"

	"galley/api"
	"galley/words"
)

// noWidths are those that neither tabs nor lines may have.
var noWidths = []int{0, -1, api.MaxLine + 1, -api.MaxLine, 1 << 17, 1 << 31, 1 << 32, 1<<32 + 1, -1 << 32, least, least + 1, greatest}

func TestP22_5Examples(t *testing.T) {
	for _, c := range []struct {
		text           string
		place, w, want int
	}{
		{example, 11, 4, 10}, {example, 10, 4, 9}, {example, 9, 4, 8}, {example, 8, 4, 8},
		{"a\tb", 0, 4, 0}, {"a\tb", 1, 4, 1}, {"a\tb", 2, 4, 4}, {"a\tb", 3, 4, 5},
		{"\t\t", 2, 1, 2}, {"\t\t", 1, 8, 8}, {"\t\t", 2, 8, 16},
		{"a\tb", 2, 1, 2}, {"a\tb", 2, 2, 2}, {"ab\tc", 3, 2, 4},
		// At a stop the tab goes to the next one.
		{"abcd\te", 5, 4, 8}, {"abcd\te", 5, 5, 5}, {"abc\te", 4, 4, 4},
		{"\tx", 1, api.MaxLine, 65536}, {"a\t\tx", 3, api.MaxLine, 131072}, {"\t\t\t", 3, 65535, 196605},
		{"ab\r\nc", 2, 8, 2}, {"ab\r\nc", 3, 8, 2}, {"ab\r\nc", 4, 8, 0}, {"ab\r\nc", 5, 8, 1},
		{"a\t\r\nc", 3, 8, 8}, {"a\t\r\nc", 4, 8, 0}, {"\r\n", 1, 8, 0},
		{"\n\r", 1, 8, 0}, {"a\n\rb", 2, 8, 0}, {"a\n\rb", 4, 8, 1}, {"a\r\rb", 2, 8, 0}, {"a\n\nb", 2, 8, 0}, {"a\n\nb", 4, 8, 1},
		{"a\nb\tc", 4, 4, 4}, {"\tb\nc\td", 5, 8, 8}, {"\tb\nc\td", 6, 8, 9}, {"aaa\n\t", 5, 4, 4},
		{"a\u20acb", 1, 4, 1}, {"a\u20acb", 2, 4, 1}, {"a\u20acb", 3, 4, 1}, {"a\u20acb", 4, 4, 2}, {"a\u20ac\t", 5, 8, 8},
		{"\U0001f600\tb", 5, 2, 2}, {"\xe2\x82\tb", 3, 2, 4}, {"\xff\xff\xff", 3, 8, 3},
		// A blank goes one further; so does what is neither tab nor blank, though one may not see it.
		{"  ", 2, 8, 2}, {"\v\f\x00\x7f", 4, 8, 4}, {"\u2028\u0085", 5, 8, 2},
		{"", 0, 1, 0}, {"", 0, api.MaxLine, 0},
	} {
		if got, e := words.Column([]byte(c.text), c.place, c.w); got != c.want || e != api.OK {
			t.Errorf("%q, %d, %d: %d %d, want %d", c.text, c.place, c.w, got, e, c.want)
		}
	}
}

// Tabs at each distance from the next stop.
func TestP22_5TabsAtEachDistance(t *testing.T) {
	for _, w := range []int{1, 2, 3, 4, 7, 8, 16, 100, 4096, api.MaxLine} {
		for _, n := range []int{0, 1, 2, w - 1, w, w + 1, 2*w - 1, 2 * w, 2*w + 1} {
			b := []byte("\t\r\n" + strings.Repeat("x", n) + "\t\u00e9")
			stop := (n/w + 1) * w
			if got, e := words.Column(b, 3+n+1, w); got != stop || e != api.OK {
				t.Errorf("%d steps and a tab, %d: %d %d, want %d", n, w, got, e, stop)
			}
			if got, e := words.Column(b, len(b), w); got != stop+1 || e != api.OK {
				t.Errorf("%d steps, a tab and one more, %d: %d %d, want %d", n, w, got, e, stop+1)
			}
		}
	}
}

func TestP22_5And6NoWidths(t *testing.T) {
	for _, text := range []string{"", "a", "\r\n", example, strings.Repeat("ab ", 99)} {
		for _, w := range noWidths {
			for _, place := range []int{0, len(text), len(text) + 1, -1} {
				if got, e := words.Column([]byte(text), place, w); got != 0 || e != api.ErrRange {
					t.Errorf("Column of %q, %d, %d: %d %d", text, place, w, got, e)
				}
			}
			if got, e := words.Wrap([]byte(text), w); len(got) != 0 || e != api.ErrRange {
				t.Errorf("Wrap of %q, %d: %v %d", text, w, got, e)
			}
		}
		for _, w := range []int{1, api.MaxLine} {
			if _, e := words.Column([]byte(text), 0, w); e != api.OK {
				t.Errorf("Column of %q, %d: %d", text, w, e)
			}
			if _, e := words.Wrap([]byte(text), w); e != api.OK {
				t.Errorf("Wrap of %q, %d: %d", text, w, e)
			}
		}
	}
}

func TestP22_6Examples(t *testing.T) {
	for _, c := range []struct {
		text string
		w    int
		want []int
	}{
		{"aa bb cc", 5, []int{3}}, {"aa bb cc", 4, []int{3, 6}}, {"abcdef\ngh", 2, []int{2, 4}},
		{"aa bb cc", 8, nil}, {"aa bb cc", 7, []int{6}}, {"aa bb cc", 6, []int{6}}, {"aa bb cc", 3, []int{3, 6}}, {"aa bb cc", 2, []int{2, 3, 5, 6}}, {"aa bb cc", 1, []int{1, 2, 3, 4, 5, 6, 7}},
		{"", 1, nil}, {"a", 1, nil}, {"\r\n", 1, nil}, {"a\r\nb\rc\nd", 1, nil},
		// Of just w steps, and of one more.
		{"abc", 3, nil}, {"abcd", 3, []int{3}}, {"abc ", 3, []int{3}}, {"ab c", 3, []int{3}}, {"a bc", 3, []int{2}}, {" abc", 3, []int{1}}, {"abc\n", 3, nil}, {"abcd\n", 3, []int{3}}, {"abcd\r\n", 3, []int{3}},
		// A blank just behind w steps comes too late.
		{"abcd ef", 4, []int{4}}, {"abcd ef", 5, []int{5}}, {"abcd  ef", 4, []int{4}}, {"abcd  ef", 3, []int{3, 6}},
		// Of several blanks the last one that has room.
		{"ab  cd", 3, []int{3}}, {"ab  cd", 4, []int{4}}, {"a b c d", 4, []int{4}}, {"a b cde", 4, []int{4}}, {"   ", 1, []int{1, 2}}, {"     ", 2, []int{2, 4}},
		// What is left behind a blank may be too wide by itself.
		{" abcdef", 3, []int{1, 4}}, {"a bcdefgh", 4, []int{2, 6}}, {"a bcd efg", 4, []int{2, 6}},
		// A blank of an earlier line, or of an earlier piece, is no place to break at.
		{"a \nbcd", 2, []int{5}}, {"a bcdefg", 3, []int{2, 5}}, {"a \rbcd", 2, []int{5}}, {" \r\nab", 1, []int{4}},
		// Tabs are blanks of one step.
		{"a\tb", 2, []int{2}}, {"\t\t\t", 2, []int{2}}, {"abc\td", 4, []int{4}},
		// Steps of several bytes, bad bytes, and those with which one doesn't break.
		{"\u20ac\u20ac\u20ac", 2, []int{6}}, {"\U0001f600 \U0001f600", 2, []int{5}}, {"a\xe2\x82b", 2, []int{2}}, {"a\xe2\x82 b", 3, []int{3}}, {"\xff\xff\xff", 1, []int{1, 2}}, {"a\u00a0b\u2028c", 2, []int{3, 7}}, {"ab-cd", 4, []int{4}}, {"ab,cd", 3, []int{3}},
		// Each line for itself.
		{"ab\r\ncd\rabc", 2, []int{9}}, {"abc\r\nabc\rabc\nabc", 2, []int{2, 7, 11, 15}}, {"abc\n\n\r\r\nabc", 2, []int{2, 10}}, {"a b\nc d", 2, []int{2, 6}},
	} {
		if got, e := words.Wrap([]byte(c.text), c.w); !slices.Equal(got, c.want) || e != api.OK {
			t.Errorf("%q, %d: %v %d, want %v", c.text, c.w, got, e, c.want)
		}
	}
	if got, e := words.Wrap(nil, 1); len(got) != 0 || e != api.OK {
		t.Errorf("of nil: %v %d", got, e)
	}
}

// Lines of MaxLine steps, and of one more, of steps of each width, with a blank at each end.
func TestP22_6GreatestWidth(t *testing.T) {
	const w = api.MaxLine
	for _, s := range []string{"a", "\u00e9", "\u20ac", "\U0001f600", "\xff", "-"} {
		whole := strings.Repeat(s, w)
		for _, c := range []struct {
			text string
			want []int
		}{
			{whole, nil},
			{whole + "\r\n" + whole, nil},
			{whole + s, []int{len(whole)}},
			{whole + " ", []int{len(whole)}},
			{" " + whole, []int{1}},
			{whole[len(s):] + " " + whole, []int{len(whole) - len(s) + 1}},
			{s + " " + whole + s, []int{len(s) + 1, len(s) + 1 + len(whole)}},
		} {
			if got, e := words.Wrap([]byte(c.text), w); !slices.Equal(got, c.want) || e != api.OK {
				t.Errorf("many of %q: %v %d, want %v", s, got, e, c.want)
			}
		}
	}
}
