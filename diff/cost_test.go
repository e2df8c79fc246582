package diff_test

import (
	"math"
	"strings"
	"testing"

	"galley/api"
	"galley/delta"
	"galley/diff"
)

func TestP19_4Examples(t *testing.T) {
	long := strings.Repeat("\u20ac", 3*api.MaxDiff)
	for _, c := range []struct {
		a    string
		d    api.Delta
		want int
		err  api.Errno
	}{
		{"abc", api.Delta{keep(1), put("\u00e9"), drop(1), keep(1)}, 2, api.OK},
		{"\u00e9", api.Delta{keep(1), drop(1)}, 0, api.ErrInside},
		{"\u00e9", api.Delta{drop(1), keep(1)}, 0, api.ErrInside},
		{"\u00e9", api.Delta{keep(1), put("x"), keep(1)}, 0, api.ErrInside},
		{"\u00e9", api.Delta{keep(1), put("x"), drop(1)}, 0, api.ErrInside},
		{"\u00e9", api.Delta{put("x"), drop(2)}, 2, api.OK},
		{"\u00e9", api.Delta{put("x"), keep(2), put("\xff\xff")}, 3, api.OK},
		{"\U0001F600", api.Delta{keep(2), drop(2)}, 0, api.ErrInside},
		{"\U0001F600", api.Delta{drop(3), keep(1)}, 0, api.ErrInside},
		{"\U0001F600", api.Delta{drop(4)}, 1, api.OK},
		// Cut at its second end alone, at its first alone.
		{"a\u20acb", api.Delta{keep(1), drop(1), keep(3)}, 0, api.ErrInside},
		{"a\u20acb", api.Delta{keep(3), drop(1), keep(1)}, 0, api.ErrInside},
		{"a\u20acb", api.Delta{keep(1), drop(3), keep(1)}, 1, api.OK},
		// The first cut, or one behind it.
		{"a\u20acb\u20ac", api.Delta{drop(1), keep(4), drop(2), keep(1)}, 0, api.ErrInside},
		// Bad bytes are steps, so each place of theirs is an edge.
		{"\xe2\x82", api.Delta{keep(1), drop(1)}, 1, api.OK},
		{"\xe2\x82", api.Delta{drop(2)}, 2, api.OK},
		{"\xe2\x82\xac\xac", api.Delta{keep(3), drop(1)}, 1, api.OK},
		{"\xe2\x82\xac\xac", api.Delta{keep(2), drop(2)}, 0, api.ErrInside},
		// Each text that is put is taken alone, whatever it comes to stand beside.
		{"\xe2\x82", api.Delta{keep(2), put("\xac")}, 1, api.OK},
		{"\xe2\x82", api.Delta{keep(1), put("\x82\xac"), keep(1)}, 2, api.OK},
		{"\xe2", api.Delta{keep(1), put("\x82\xac")}, 2, api.OK},
		{"x", api.Delta{put("\xe2\x82"), keep(1), put("\xac")}, 3, api.OK},
		{"x", api.Delta{put("\xe2"), drop(1)}, 2, api.OK},
		// What comes to stand side by side by a drop makes no step of a.
		{"\xe2x\x82\xac", api.Delta{keep(1), drop(1), keep(2)}, 1, api.OK},
		{"\ufffd\xff", api.Delta{drop(3), keep(1)}, 1, api.OK},
		{"\ufffd\xff", api.Delta{put("\ufffd\xff"), drop(4)}, 4, api.OK},
		{"abc", api.Delta{keep(3)}, 0, api.OK},
		{"", nil, 0, api.OK},
		{"", api.Delta{put("a\u20ac\xff")}, 3, api.OK},
		// No number of steps is too great for it.
		{long, api.Delta{drop(len(long))}, 3 * api.MaxDiff, api.OK},
		{long, api.Delta{put(long), keep(len(long))}, 3 * api.MaxDiff, api.OK},
		{long, api.Delta{drop(len(long) - 1), keep(1)}, 0, api.ErrInside},
	} {
		if got, err := diff.Cost([]byte(c.a), c.d); got != c.want || err != c.err {
			t.Errorf("Cost(%s,%s): %d, %d, want %d, %d", short(c.a), told(c.d), got, err, c.want, c.err)
		}
	}
}

// The errors in their order: a delta that isn't canonical, one of another length, one that cuts a step.
func TestP19_4ErrorsInOrder(t *testing.T) {
	for _, c := range []struct {
		a   string
		d   api.Delta
		err api.Errno
	}{
		{"\u00e9", api.Delta{keep(1), keep(2)}, api.ErrDelta},
		{"\u00e9", api.Delta{keep(1), keep(1)}, api.ErrDelta},
		{"\u00e9", api.Delta{keep(1), drop(1), put("x")}, api.ErrDelta},
		{"\u00e9", api.Delta{keep(1), drop(2), put("x")}, api.ErrDelta},
		{"abc", api.Delta{keep(3), drop(0)}, api.ErrDelta},
		{"abc", api.Delta{keep(3), put("")}, api.ErrDelta},
		{"abc", api.Delta{{Kind: api.Keep, N: 3, Text: "x"}}, api.ErrDelta},
		{"abc", api.Delta{{Kind: api.Put, N: 1, Text: "x"}, keep(3)}, api.ErrDelta},
		{"abc", api.Delta{{Kind: 0, N: 3}}, api.ErrDelta},
		{"abc", api.Delta{{Kind: 4, N: 3}}, api.ErrDelta},
		{"abc", api.Delta{{Kind: -1, N: 3}}, api.ErrDelta},
		{"abc", api.Delta{keep(-3)}, api.ErrDelta},
		{"abc", api.Delta{drop(math.MinInt)}, api.ErrDelta},
		{"abc", api.Delta{keep(math.MaxInt)}, api.ErrDelta},
		{"abc", api.Delta{keep(math.MaxInt), drop(math.MaxInt)}, api.ErrDelta},
		{"abc", api.Delta{keep(api.MaxText + 1)}, api.ErrDelta},
		{"abc", api.Delta{put("x"), drop(api.MaxText), keep(3)}, api.ErrDelta},
		{"", api.Delta{keep(0)}, api.ErrDelta},
		{"\u00e9", api.Delta{keep(1), drop(2)}, api.ErrFit},
		{"\u00e9", api.Delta{keep(1)}, api.ErrFit},
		{"\u00e9", nil, api.ErrFit},
		{"", api.Delta{keep(1)}, api.ErrFit},
		{"", api.Delta{put("x"), drop(1)}, api.ErrFit},
		{"abc", api.Delta{keep(api.MaxText)}, api.ErrFit},
		{"\u00e9x", api.Delta{keep(1), drop(1), keep(1)}, api.ErrInside},
	} {
		if got, err := diff.Cost([]byte(c.a), c.d); got != 0 || err != c.err {
			t.Errorf("Cost(%+q,%s): %d, %d, want %d", c.a, told(c.d), got, err, c.err)
		}
	}
}

// costOf is what the chapter says of Cost.
func costOf(a string, d api.Delta) (int, api.Errno) {
	if !canonical(d) {
		return 0, api.ErrDelta
	}
	from := 0
	for _, op := range d {
		from += op.N
	}
	if from != len(a) {
		return 0, api.ErrFit
	}
	_, old, _, dropped, puts := do(a, d)
	if !all(old, ends(stepsOf(a))) {
		return 0, api.ErrInside
	}
	return count(dropped, stepsOf) + count(puts, stepsOf), api.OK
}

func holdCost(t *testing.T, a string, d api.Delta) {
	t.Helper()
	want, wrong := costOf(a, d)
	if got, err := diff.Cost([]byte(a), d); got != want || err != wrong {
		t.Fatalf("Cost(%+q,%s): %d, %d, want %d, %d", a, told(d), got, err, want, wrong)
	}
}

// All lists of up to three operations, right ones and wrong ones, of short texts.
func TestP19_4ShortLists(t *testing.T) {
	t.Parallel()
	ops := []api.Op{
		keep(0), keep(1), keep(2), keep(3), drop(1), drop(2), drop(-1), put(""), put("x"), put("\u00e9"), put("\xa9\xe2"),
		{Kind: api.Keep, N: 1, Text: "x"}, {Kind: api.Put, N: 1, Text: "x"}, {Kind: 0, N: 1}, {Kind: 4, N: 1},
	}
	for _, a := range []string{"", "a", "\xff", "ab", "\u00e9", "\xa9\xc3", "\u20ac", "a\u00e9", "\u00e9a", "\xc3\xc3\xa9", "\u00e9\u00e9", "\U0001F600", "\u20acb"} {
		for n := range 4 {
			rows(n, ops, func(d []api.Op) { holdCost(t, a, d) })
		}
	}
}

// Every way to keep some bytes of a short text, with texts put between them.
func TestP19_4EveryKeep(t *testing.T) {
	t.Parallel()
	for _, a := range texts(3, edgy...) {
		puts := []string{"", "\x82\xac", "\u00e9"}
		rows(len(a)+1, puts, func(between []string) {
			for mask := range 1 << len(a) {
				var d api.Delta
				for i := range len(a) + 1 {
					d = append(d, put(between[i]))
					switch {
					case i == len(a):
					case mask>>i&1 == 1:
						d = append(d, keep(1))
					default:
						d = append(d, drop(1))
					}
				}
				canon, _ := delta.Canon(d)
				holdCost(t, a, canon)
			}
		})
	}
}
