package diff_test

import (
	"bytes"
	"math/rand"
	"slices"
	"strings"
	"testing"

	"galley/api"
	"galley/diff"
)

// Of each of these there is just one delta that drops and puts so few pieces.
func TestP19_3Examples(t *testing.T) {
	for _, c := range []struct {
		a, b string
		want api.Delta
	}{
		{"a\nb\nc", "a\nc", api.Delta{keep(2), drop(2), keep(1)}},
		{"a\r\nb", "a\nb", api.Delta{put("a\n"), drop(3), keep(1)}},
		{"", "", nil},
		{"", "a\nb", api.Delta{put("a\nb")}},
		{"a\nb", "", api.Delta{drop(3)}},
		{"a\nb\n", "a\nb\n", api.Delta{keep(4)}},
		// Without its line end it is another piece.
		{"x", "x\n", api.Delta{put("x\n"), drop(1)}},
		{"x\n", "x", api.Delta{put("x"), drop(2)}},
		{"a\nx", "a\nx\n", api.Delta{keep(2), put("x\n"), drop(1)}},
		{"a\nb", "b\na", api.Delta{put("b\na"), drop(3)}},
		// A line end of each kind is another piece.
		{"x\r", "x\n", api.Delta{put("x\n"), drop(2)}},
		{"x\r\n", "x\r", api.Delta{put("x\r"), drop(3)}},
		// CR LF isn't parted, and none is made of a kept CR.
		{"\r\n", "\r", api.Delta{put("\r"), drop(2)}},
		{"\r", "\r\n", api.Delta{put("\r\n"), drop(1)}},
		{"\r", "\n\r", api.Delta{put("\n"), keep(1)}},
		{"a\r\n", "a\r\r\n", api.Delta{put("a\r\r\n"), drop(3)}},
		{"a\rb\r\nc\n", "b\r\nc\n", api.Delta{drop(2), keep(5)}},
		{"\n", "\r\n\n", api.Delta{put("\r\n"), keep(1)}},
		// Lines with nothing in them are pieces; nothing behind the last line end is none.
		{"a\n\nb\n", "a\nb\n", api.Delta{keep(2), drop(1), keep(2)}},
		{"a\n", "a\nb", api.Delta{keep(2), put("b")}},
		{"a\nb", "a\n", api.Delta{keep(2), drop(1)}},
		// A line is kept whole, or not at all.
		{"abc\ndef\n", "abc\ndxf\n", api.Delta{keep(4), put("dxf\n"), drop(4)}},
		{"\xe2\x82\n\xac", "\xe2\x82\xac", api.Delta{put("\xe2\x82\xac"), drop(4)}},
		{"\xff\n\ufffd\n", "\ufffd\n\xfe\n", api.Delta{drop(2), keep(4), put("\xfe\n")}},
	} {
		if got, err := diff.Lines([]byte(c.a), []byte(c.b)); !slices.Equal(got, c.want) || err != api.OK {
			t.Errorf("Lines(%+q, %+q):%s, %d, want%s", c.a, c.b, told(got), err, told(c.want))
		}
		holdLines(t, c.a, c.b)
	}
}

// All pairs of short texts with line ends of each kind.
func TestP19_3ShortTexts(t *testing.T) {
	t.Parallel()
	for _, some := range [][]string{texts(4, "a", "\r", "\n"), texts(3, "a", "b", "\r", "\n", "\xe2"), texts(3, "a\n", "a\r", "a\r\n", "\r", "\n", "a")} {
		for _, a := range some {
			for _, b := range some {
				holdLines(t, a, b)
			}
		}
	}
}

// pieces are lines with ends of each kind, and some without.
var pieces = []string{"a\n", "a\r\n", "a\r", "\n", "\r", "\r\n", "bb\n", "\u20ac\n", "\xe2\x82\n", "\ufffd\r", "\xff\r", "a", "\xac"}

func TestP19_3ByChance(t *testing.T) {
	t.Parallel()
	r := rand.New(rand.NewSource(7))
	for range 1500 {
		some := pieces[:2+r.Intn(len(pieces)-1)]
		a := byChance(r, r.Intn(120), some)
		holdLines(t, a, byChance(r, r.Intn(120), some))
		holdLines(t, a, touched(r, a, some))
	}
}

// Texts of as many line pieces as are compared, with ends of each kind, with and without one at the end; and with one more.
func TestP19_3MaxDiff(t *testing.T) {
	t.Parallel()
	r := rand.New(rand.NewSource(8))
	for _, s := range []string{"\n", "\r", "\r\n", "ab\n", "\u20ac\r\n"} {
		full := strings.Repeat(s, api.MaxDiff)
		open := strings.Repeat(s, api.MaxDiff-1) + "x"
		other := byChance(r, api.MaxDiff, []string{s, "c" + s, "d\n"})
		for _, b := range []string{"", "x", full, open, other} {
			for _, a := range []string{full, open} {
				holdLines(t, a, b)
				holdLines(t, b, a)
			}
			for _, over := range []string{full + s, full + "x", open + s + "y", full + full, "y\n" + full} {
				many(t, over, b)
				many(t, b, over)
				many(t, over, over)
			}
		}
	}
	// A CR and an LF behind it are one end.
	holdLines(t, strings.Repeat("\n\r", api.MaxDiff-1)+"\n", "\n")
	many(t, strings.Repeat("\n\r", api.MaxDiff), "\n")
	holdLines(t, strings.Repeat("\r\n", api.MaxDiff), "\r\n")
	many(t, strings.Repeat("\r", api.MaxDiff+1), "\r")
}

// many holds that there are too many line pieces, and that nothing is told beside that.
func many(t *testing.T, a, b string) {
	t.Helper()
	if d, err := diff.Lines([]byte(a), []byte(b)); len(d) != 0 || err != api.ErrGreat {
		t.Errorf("Lines(%s, %s):%s, %d", short(a), short(b), told(d), err)
	}
}

// Lines asks for line pieces alone, and not for steps.
func TestP19_3ManyStepsFewLines(t *testing.T) {
	long := strings.Repeat("x", 3*api.MaxDiff)
	great(t, long, long)
	holdLines(t, long, long)
	holdLines(t, long+"\na\n"+long, long+"\n"+long)
	if d, err := diff.Lines([]byte(long+"\na\n"), []byte(long+"\nb\n")); !slices.Equal(d, api.Delta{keep(len(long) + 1), put("b\n"), drop(2)}) || err != api.OK {
		t.Errorf("Lines:%s, %d", told(d), err)
	}
}

// Many long lines that differ only at their ends take no longer than others: this would not end, if each were read as often as it is held against another.
func TestP19_3LongLines(t *testing.T) {
	t.Parallel()
	long := strings.Repeat("x", 1<<14)
	var a, b strings.Builder
	for i := range 1000 {
		end := string(rune('\u1000'+i)) + "\n"
		a.WriteString(long + end)
		if i%3 > 0 {
			b.WriteString(long + end)
		}
		if i%5 == 0 {
			b.WriteString(long + "\n")
		}
	}
	d, err := diff.Lines([]byte(a.String()), []byte(b.String()))
	if err != api.OK {
		t.Fatalf("Lines: %d", err)
	}
	leads(t, "Lines", a.String(), b.String(), d, piecesOf, 334+200)
}

// Texts of as many bytes as a delta may be of.
func TestP19_3MaxText(t *testing.T) {
	whole := bytes.Repeat([]byte("x"), api.MaxText+1)
	long := whole[:api.MaxText]
	if d, err := diff.Lines(long, nil); !slices.Equal(d, api.Delta{drop(api.MaxText)}) || err != api.OK {
		t.Errorf("Lines:%s, %d", told(d), err)
	}
	if d, err := diff.Lines(nil, long); len(d) != 1 || d[0].Kind != api.Put || len(d[0].Text) != api.MaxText || err != api.OK {
		t.Errorf("Lines:%s, %d", told(d), err)
	}
	// There is no canonical delta that leads from a longer text, or to it.
	for _, c := range [][2][]byte{{whole, nil}, {nil, whole}} {
		if d, err := diff.Lines(c[0], c[1]); len(d) != 0 || err != api.ErrLong {
			t.Errorf("Lines:%s, %d", told(d), err)
		}
	}
	if n, err := diff.Cost(long, api.Delta{drop(api.MaxText)}); n != api.MaxText || err != api.OK {
		t.Errorf("Cost: %d, %d", n, err)
	}
	if n, err := diff.Cost(whole, api.Delta{keep(api.MaxText)}); n != 0 || err != api.ErrFit {
		t.Errorf("Cost: %d, %d", n, err)
	}
	if n, err := diff.Cost(whole, api.Delta{keep(api.MaxText + 1)}); n != 0 || err != api.ErrDelta {
		t.Errorf("Cost: %d, %d", n, err)
	}
	// Too many line pieces come first.
	for i := range whole {
		whole[i] = '\n'
	}
	if d, err := diff.Lines(whole, nil); len(d) != 0 || err != api.ErrGreat {
		t.Errorf("Lines:%s, %d", told(d), err)
	}
	if n, err := diff.Distance(nil, whole); n != 0 || err != api.ErrGreat {
		t.Errorf("Distance: %d, %d", n, err)
	}
}
