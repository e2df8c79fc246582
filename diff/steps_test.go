package diff_test

import (
	"bytes"
	"math/rand"
	"slices"
	"strings"
	"testing"

	"galley/api"
	"galley/delta"
	"galley/diff"
	"galley/doc"
)

// kinds are steps of each width, bad ones, and U+FFFD.
var kinds = []string{"a", "b", "\u00e9", "\u20ac", "\U0001F600", "\ufffd", "\xff", "\xe2", "\x82", "\xac"}

// edgy are bytes that make encodings beside one another.
var edgy = []string{"a", "\xc3", "\xa9", "\xe2", "\x82", "\xac"}

func TestP19_1Examples(t *testing.T) {
	for _, c := range []struct {
		a, b string
		want int
	}{
		{"kitten", "sitting", 5},
		{"\xe2\x82\xac", "\xe2\x82", 3},
		{"\xef\xbf\xbd", "\xff", 2},
		{"a\u00f1b", "anb", 2},
		{"", "", 0},
		{"", "a\u20ac\xff", 3},
		{"a\u20ac\xff", "", 3},
		{"a\u20ac\xff", "a\u20ac\xff", 0},
		{"abc", "xyz", 6},
		{"abc", "cab", 2},
		{"\xe2", "\xe2\x82\xac", 2},
		{"\xff\xfe", "\xfe\xff", 2},
		// The same rune told, unlike bytes.
		{"\ufffd\xff\ufffd", "\xff\ufffd\xff", 2},
		{"\xff", "\xfe", 2},
		// The last byte is the same, the steps aren't.
		{"\u00e9", "\u0129", 2},
	} {
		if got, err := diff.Distance([]byte(c.a), []byte(c.b)); got != c.want || err != api.OK {
			t.Errorf("Distance(%+q, %+q): %d, %d, want %d", c.a, c.b, got, err, c.want)
		}
		holdSteps(t, c.a, c.b)
	}
}

// Of each of these there is just one delta that costs so little.
func TestP19_2Examples(t *testing.T) {
	for _, c := range []struct {
		a, b string
		want api.Delta
	}{
		{"abc", "abxc", api.Delta{keep(2), put("x"), keep(1)}},
		{"", "", nil},
		{"", "a\u20ac", api.Delta{put("a\u20ac")}},
		{"a\u20ac", "", api.Delta{drop(4)}},
		{"a\u20ac", "a\u20ac", api.Delta{keep(4)}},
		{"ab", "xyz", api.Delta{put("xyz"), drop(2)}},
		{"a\u00f1b", "anb", api.Delta{keep(1), put("n"), drop(2), keep(1)}},
		{"\xe2\x82", "\xe2\x82\xac", api.Delta{put("\xe2\x82\xac"), drop(2)}},
		{"\xe2\x82\xac", "\xe2\x82", api.Delta{put("\xe2\x82"), drop(3)}},
		{"x\ufffdy", "x\xffy", api.Delta{keep(1), put("\xff"), drop(3), keep(1)}},
		{"abcdef", "bXdYf", api.Delta{drop(1), keep(1), put("X"), drop(1), keep(1), put("Y"), drop(1), keep(1)}},
		{"\U0001F600\u00e9a", "\U0001F600a", api.Delta{keep(4), drop(2), keep(1)}},
	} {
		if got, err := diff.Least([]byte(c.a), []byte(c.b)); !slices.Equal(got, c.want) || err != api.OK {
			t.Errorf("Least(%+q, %+q):%s, %d, want%s", c.a, c.b, told(got), err, told(c.want))
		}
	}
}

// nil and empty mean the same.
func TestR5Steps(t *testing.T) {
	for _, a := range [][]byte{nil, {}} {
		for _, b := range [][]byte{nil, {}} {
			if n, err := diff.Distance(a, b); n != 0 || err != api.OK {
				t.Errorf("Distance: %d, %d", n, err)
			}
			if d, err := diff.Least(a, b); len(d) != 0 || err != api.OK {
				t.Errorf("Least:%s, %d", told(d), err)
			}
			if d, err := diff.Lines(a, b); len(d) != 0 || err != api.OK {
				t.Errorf("Lines:%s, %d", told(d), err)
			}
		}
		if n, err := diff.Cost(a, api.Delta{}); n != 0 || err != api.OK {
			t.Errorf("Cost: %d, %d", n, err)
		}
		if n, err := diff.Cost(a, nil); n != 0 || err != api.OK {
			t.Errorf("Cost: %d, %d", n, err)
		}
	}
}

// All pairs of texts of up to two steps of each kind, and of up to three bytes that make encodings beside one another.
func TestP19_1And2ShortTexts(t *testing.T) {
	t.Parallel()
	for _, some := range [][]string{texts(2, kinds...), texts(3, edgy...), texts(5, "a", "b"), texts(4, "a", "b", "c")} {
		for _, a := range some {
			for _, b := range some {
				holdSteps(t, a, b)
			}
		}
	}
}

// Bytes that come to stand side by side would make an encoding that neither text has, or one is parted.
func TestP19_2Seams(t *testing.T) {
	for _, c := range [][2]string{
		{"\xe2x\x82\xac", "\xe2\x82\xac"},
		{"\xe2\x82x\xac", "\xe2\x82\xac"},
		{"\xe2\x82", "\xac"},
		{"\xe2\x82", "\xe2\x82\xac"},
		{"\x82\xac", "\xe2\x82\xac"},
		{"\xc3", "\xc3\xa9"},
		{"\xa9", "\xc3\xa9"},
		{"\xc3\xc3\xa9", "\xc3\xa9\xa9"},
		{"\xc3a\xa9", "\xc3b\xa9"},
		{"\xc3a", "\xa9a"},
		{"a\xc3", "\xa9a"},
		{"\xf0\x9f\x98", "\xf0\x9f\x98\x80"},
		{"\xf0x\x9fy\x98z\x80", "\xf0\x9f\x98\x80"},
		{"\xf0\x9f\x98\xf0\x9f\x98\x80", "\xf0\x9f\x98\x80\x80"},
		{"\xef\xbf\xbd\xef", "\xef\xef\xbf\xbd"},
		{"\xed\xa0\x80", "\xed\x80\x80"},
		{"\xed\xa0\x80\xed\x9f\xbf", "\xed\x9f\xbf\xa0\x80"},
	} {
		holdSteps(t, c[0], c[1])
		holdSteps(t, c[1], c[0])
		holdSteps(t, c[0]+c[1], c[1]+c[0])
		holdSteps(t, "x"+c[0]+"y", "x"+c[1]+"y")
	}
}

// byChance is a text of n out of some.
func byChance(r *rand.Rand, n int, some []string) string {
	var b strings.Builder
	for range n {
		b.WriteString(some[r.Intn(len(some))])
	}
	return b.String()
}

// touched is a text with some changes by chance.
func touched(r *rand.Rand, s string, some []string) string {
	for range r.Intn(5) {
		lo := r.Intn(len(s) + 1)
		hi := min(len(s), lo+r.Intn(4))
		s = s[:lo] + byChance(r, r.Intn(4), some) + s[hi:]
	}
	return s
}

func TestP19_1And2ByChance(t *testing.T) {
	t.Parallel()
	r := rand.New(rand.NewSource(19))
	for i := range 1500 {
		some := kinds[:2+r.Intn(len(kinds)-1)]
		if i%3 == 0 {
			some = edgy
		}
		a := byChance(r, r.Intn(150), some)
		holdSteps(t, a, byChance(r, r.Intn(150), some))
		holdSteps(t, a, touched(r, a, some))
	}
}

// Texts whose sizes stand about those of the table's parts.
func TestP19_1And2Sizes(t *testing.T) {
	t.Parallel()
	r := rand.New(rand.NewSource(1))
	for _, n := range []int{1, 2, 15, 16, 17, 31, 32, 33, 63, 64, 65, 127, 128, 129} {
		for _, m := range []int{1, 31, 32, 33, 63, 64, 65, 128, 300} {
			a, b := byChance(r, n, kinds[:3]), byChance(r, m, kinds[:3])
			holdSteps(t, a, b)
			holdSteps(t, b, a)
			// No head and no tail in common.
			holdSteps(t, "\x01"+a+"\x01", "\x02"+b+"\x02")
		}
	}
}

// Texts of as many steps as are compared, of each width, and with one more in a, in b, and in both.
func TestP19_1And2MaxDiff(t *testing.T) {
	t.Parallel()
	r := rand.New(rand.NewSource(2))
	for _, s := range []string{"a", "\u00e9", "\u20ac", "\U0001F600", "\xff", "\xf0"} {
		full := strings.Repeat(s, api.MaxDiff)
		over := full + s
		other := byChance(r, api.MaxDiff, append([]string{s}, kinds[:6]...))
		for _, b := range []string{"", s, full, other} {
			holdSteps(t, full, b)
			holdSteps(t, b, full)
			great(t, over, b)
			great(t, b, over)
		}
		great(t, over, over)
		great(t, over, strings.Repeat("x", api.MaxDiff+1))
	}
	great(t, strings.Repeat("\U0001F600", api.MaxDiff-1)+"ab", "")
	great(t, strings.Repeat("\U0001F600", api.MaxDiff)+"\x80", "")
	holdSteps(t, "ab"+strings.Repeat("\U0001F600", api.MaxDiff-2), "")
	for _, n := range []int{api.MaxDiff*4 - 1, api.MaxDiff * 4, api.MaxDiff*4 + 1, 1 << 20} {
		great(t, strings.Repeat("a", n), "a")
		great(t, "a", strings.Repeat("\x80", n))
	}
}

// great holds that there is too much to compare by steps, and that nothing is told beside that.
func great(t *testing.T, a, b string) {
	t.Helper()
	if n, err := diff.Distance([]byte(a), []byte(b)); n != 0 || err != api.ErrGreat {
		t.Errorf("Distance(%s, %s): %d, %d", short(a), short(b), n, err)
	}
	if d, err := diff.Least([]byte(a), []byte(b)); len(d) != 0 || err != api.ErrGreat {
		t.Errorf("Least(%s, %s):%s, %d", short(a), short(b), told(d), err)
	}
}

// Texts of as many steps as are compared that are unlike all over.
func TestP19_1And2MaxDiffByChance(t *testing.T) {
	t.Parallel()
	r := rand.New(rand.NewSource(3))
	for _, some := range [][]string{{"a", "b"}, kinds, edgy, strings.Split("abcdefghijklmnopqrstuvwxyz", "")} {
		a, b := byChance(r, api.MaxDiff*2/3, some), byChance(r, api.MaxDiff*2/3, some)
		holdSteps(t, a, b)
		holdSteps(t, a, a[len(a)/2:])
	}
	a, b := byChance(r, api.MaxDiff, kinds[:5]), byChance(r, api.MaxDiff, kinds[:5])
	holdSteps(t, a, b)
	// All of a is unlike all of b, and the one is the other backwards.
	holdSteps(t, strings.Repeat("ab", api.MaxDiff/2), strings.Repeat("cd", api.MaxDiff/2))
	holdSteps(t, strings.Repeat("ab", api.MaxDiff/2), strings.Repeat("ba", api.MaxDiff/2))
}

// Distance is 0 just for the same bytes, the same both ways, no way about a third text is shorter, and it is at least the difference of how many steps they have.
func TestP19_5Distance(t *testing.T) {
	t.Parallel()
	for _, some := range [][]string{texts(2, kinds...), texts(3, "\xe2", "\x82", "\xac", "a")} {
		apart := make([][]int, len(some))
		for i, a := range some {
			for _, b := range some {
				n, _ := diff.Distance([]byte(a), []byte(b))
				apart[i] = append(apart[i], n)
			}
		}
		for i, a := range some {
			for j, b := range some {
				n := apart[i][j]
				if (n == 0) != (a == b) || n != apart[j][i] || n < len(stepsOf(a))-len(stepsOf(b)) {
					t.Fatalf("Distance(%+q, %+q): %d, back %d", a, b, n, apart[j][i])
				}
				for k, c := range some {
					if apart[i][k] > n+apart[j][k] {
						t.Fatalf("Distance(%+q, %+q): %d, about %+q %d and %d", a, c, apart[i][k], b, n, apart[j][k])
					}
				}
			}
		}
	}
}

func TestP19_5DistanceByChance(t *testing.T) {
	t.Parallel()
	r := rand.New(rand.NewSource(4))
	distance := func(a, b string) int {
		n, err := diff.Distance([]byte(a), []byte(b))
		if err != api.OK {
			t.Fatalf("Distance(%s, %s): %d", short(a), short(b), err)
		}
		return n
	}
	for range 2000 {
		a, b := byChance(r, r.Intn(60), kinds), byChance(r, r.Intn(60), kinds)
		if r.Intn(2) == 0 {
			b = touched(r, a, kinds)
		}
		c := touched(r, b, kinds)
		ab, ba, bc, ac := distance(a, b), distance(b, a), distance(b, c), distance(a, c)
		if ab != ba || ac > ab+bc || (ab == 0) != (a == b) || ab < len(stepsOf(b))-len(stepsOf(a)) {
			t.Fatalf("%+q, %+q, %+q: %d, %d, %d, %d", a, b, c, ab, ba, bc, ac)
		}
	}
}

// eachWay calls f with every canonical delta that leads from a to b.
func eachWay(a, b string, f func(d api.Delta)) {
	var on func(i, j int, d api.Delta)
	on = func(i, j int, d api.Delta) {
		if i == len(a) && j == len(b) {
			c, _ := delta.Canon(d)
			f(c)
		}
		// What is put between two kept bytes comes ahead of what is dropped, so each way is gone just once.
		if i < len(a) && j < len(b) && a[i] == b[j] {
			on(i+1, j+1, append(slices.Clone(d), keep(1)))
		}
		if j < len(b) && (len(d) == 0 || d[len(d)-1].Kind != api.Drop) {
			on(i, j+1, append(slices.Clone(d), put(b[j:j+1])))
		}
		if i < len(a) {
			on(i+1, j, append(slices.Clone(d), drop(1)))
		}
	}
	on(0, 0, nil)
}

// No delta that leads from a to b and cuts no step of either costs less than Distance, and one costs just that. What each costs, Cost tells.
func TestP19_5EveryWay(t *testing.T) {
	t.Parallel()
	some := append(texts(3, "a", "\xe2", "\x82", "\xac"), "\xc3\xa9", "a\xc3\xa9", "\xe2\x82\xac\xac", "\xe2\xe2\x82\xac", "\ufffd\xff", "\xef\xbf", "\xbf\xbd")
	for _, a := range some {
		for _, b := range some {
			want, _ := diff.Distance([]byte(a), []byte(b))
			best := len(a) + len(b) + 1
			eachWay(a, b, func(d api.Delta) {
				_, old, made, dropped, puts := do(a, d)
				cost := count(dropped, stepsOf) + count(puts, stepsOf)
				inside := !all(old, ends(stepsOf(a)))
				got, err := diff.Cost([]byte(a), d)
				if inside && (got != 0 || err != api.ErrInside) || !inside && (got != cost || err != api.OK) {
					t.Fatalf("Cost(%+q,%s): %d, %d, want %d", a, told(d), got, err, cost)
				}
				if !inside && all(made, ends(stepsOf(b))) {
					best = min(best, cost)
				}
			})
			if best != want {
				t.Fatalf("Distance(%+q, %+q): %d, one delta costs %d", a, b, want, best)
			}
		}
	}
}

// One that cuts steps of b may cost less.
func TestP19_5CuttingStepsOfB(t *testing.T) {
	a, b := []byte("\xe2\x82"), []byte("\xe2\x82\xac")
	d := api.Delta{keep(2), put("\xac")}
	if made, err := delta.Apply(a, d); !bytes.Equal(made, b) || err != api.OK {
		t.Errorf("Apply: %x, %d", made, err)
	}
	if n, err := diff.Cost(a, d); n != 1 || err != api.OK {
		t.Errorf("Cost: %d, %d", n, err)
	}
	if n, err := diff.Distance(a, b); n != 3 || err != api.OK {
		t.Errorf("Distance: %d, %d", n, err)
	}
}

// What Least and Lines answer composes, is taken back, and is a step of a document.
func TestP5AndP6OfWhatIsAnswered(t *testing.T) {
	r := rand.New(rand.NewSource(5))
	some := append(slices.Clone(kinds), "\n", "\r")
	for range 300 {
		a := byChance(r, r.Intn(30), some)
		b := touched(r, a, some)
		c := touched(r, b, some)
		for _, call := range []func(a, b []byte) (api.Delta, api.Errno){diff.Least, diff.Lines} {
			one, _ := call([]byte(a), []byte(b))
			two, _ := call([]byte(b), []byte(c))
			both, err := delta.Compose(one, two)
			if made, _ := delta.Apply([]byte(a), both); string(made) != c || err != api.OK {
				t.Fatalf("Compose(%s,%s): %+q, %d, want %+q", told(one), told(two), made, err, c)
			}
			back, _ := delta.Invert([]byte(a), one)
			if made, err := delta.Apply([]byte(b), back); string(made) != a || err != api.OK {
				t.Fatalf("Invert(%+q,%s): %+q, %d", a, told(one), made, err)
			}
			page, _ := doc.New([]byte(a), 9)
			if err := page.Apply(one); err != api.OK {
				t.Fatalf("%+q,%s: %d", a, told(one), err)
			}
			if err := page.Apply(two); err != api.OK {
				t.Fatalf("%+q,%s: %d", b, told(two), err)
			}
			for _, want := range slices.Compact([]string{c, b, a}) { // a delta that keeps all is no step
				x := page.Text()
				if got, _ := x.Bytes(0, x.Len()); string(got) != want {
					t.Fatalf("%+q, want %+q", got, want)
				}
				page.Undo()
			}
		}
	}
}

// Invert of the least costs as much in the other text.
func TestP19_2TakenBack(t *testing.T) {
	r := rand.New(rand.NewSource(6))
	for range 500 {
		a := byChance(r, r.Intn(40), kinds)
		b := touched(r, a, kinds)
		d, _ := diff.Least([]byte(a), []byte(b))
		back, _ := delta.Invert([]byte(a), d)
		want, _ := diff.Distance([]byte(b), []byte(a))
		leads(t, "Invert of Least", b, a, back, stepsOf, want)
	}
}
