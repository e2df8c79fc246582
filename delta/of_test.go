package delta_test

import (
	"slices"
	"testing"

	"galley/api"
	"galley/delta"
)

func TestP13_1ExamplesOfOf(t *testing.T) {
	for _, c := range []struct {
		n    int
		cs   []api.Change
		want api.Delta
		err  api.Errno
	}{
		{6, []api.Change{{Lo: 2, Hi: 3, Text: "x"}, {Lo: 3, Hi: 3, Text: "y"}, {Lo: 5, Hi: 6}}, written("=2 +xy -1 =2 -1"), api.OK},
		{6, []api.Change{{Lo: 2, Hi: 4}, {Lo: 3, Hi: 3, Text: "y"}}, nil, api.ErrCross},
		{6, []api.Change{{Lo: 2, Hi: 7}}, nil, api.ErrRange},
		{-1, nil, nil, api.ErrRange},
		{6, nil, written("=6"), api.OK},
		{0, nil, nil, api.OK},
	} {
		if got, err := delta.Of(c.n, c.cs); !slices.Equal(got, c.want) || err != c.err {
			t.Errorf("Of(%d, %v):%s, %d, want%s, %d", c.n, c.cs, told(got), err, told(c.want), c.err)
		}
	}
}

func holdOf(t *testing.T, n int, cs []api.Change) {
	t.Helper()
	want, wrong := ofChanges(n, cs)
	if got, err := delta.Of(n, cs); !slices.Equal(got, want) || err != wrong {
		t.Fatalf("Of(%d, %v):%s, %d, want%s, %d", n, cs, told(got), err, told(want), wrong)
	}
}

// somewhere are changes between any two of some places, the second ahead of the first too.
func somewhere(places []int, texts ...string) []api.Change {
	var cs []api.Change
	for _, lo := range places {
		for _, hi := range places {
			for _, text := range texts {
				cs = append(cs, api.Change{Lo: lo, Hi: hi, Text: text})
			}
		}
	}
	return cs
}

// Every list of a few changes: those that touch, that stand at one place, that cross, that aren't in order, that don't fit, and several of these at one time.
func TestP13_1ShortChanges(t *testing.T) {
	t.Parallel()
	for _, n := range []int{least, -1, 0, 1, 2, 3, api.MaxText + 1, greatest} {
		for k := range 3 {
			rows(k, somewhere([]int{least, -1, 0, 1, 2, 3, 4, greatest}, "", "x", "yz"), func(cs []api.Change) { holdOf(t, n, cs) })
		}
	}
	for n := range 3 {
		rows(3, somewhere([]int{-1, 0, 1, 2}, "", "x"), func(cs []api.Change) { holdOf(t, n, numbered(cs)) })
	}
	rows(4, somewhere([]int{0, 1, 2}, "", "x"), func(cs []api.Change) { holdOf(t, 2, numbered(cs)) })
}

// numbered are the changes with texts that tell which is whose.
func numbered(cs []api.Change) []api.Change {
	cs = slices.Clone(cs)
	for i := range cs {
		if cs[i].Text != "" {
			cs[i].Text = "abcd"[i : i+1]
		}
	}
	return cs
}

// A text of MaxText bytes and one of one more; changes that make one of MaxText, and of one more; and more errors at one time: a wrong place anywhere is told ahead of two that cross, and these ahead of what is too long.
func TestP13_1OfErrorsInOrder(t *testing.T) {
	t.Parallel()
	const most = api.MaxText
	long := tooLong()
	for _, c := range []struct {
		name string
		n    int
		cs   []api.Change
		want api.Delta
		err  api.Errno
	}{
		{"all kept", most, nil, api.Delta{keep(most)}, api.OK},
		{"one more", most + 1, nil, nil, api.ErrRange},
		{"below 0", least, nil, nil, api.ErrRange},
		{"one more, with a change", most + 1, []api.Change{{Lo: 0, Hi: 2}}, nil, api.ErrRange},
		{"one in the place of one", most, []api.Change{{Lo: 1, Hi: 2, Text: "x"}}, api.Delta{keep(1), put("x"), drop(1), keep(most - 2)}, api.OK},
		{"two in the place of one", most, []api.Change{{Lo: 1, Hi: 2, Text: "xy"}}, nil, api.ErrLong},
		{"one put at the end", most, []api.Change{{Lo: most, Hi: most, Text: "x"}}, nil, api.ErrLong},
		{"one put, then one dropped", most, []api.Change{{Lo: 0, Hi: 0, Text: "x"}, {Lo: most - 1, Hi: most}}, api.Delta{put("x"), keep(most - 1), drop(1)}, api.OK},
		{"one dropped, then one put", most, []api.Change{{Lo: 0, Hi: 1}, {Lo: most, Hi: most, Text: "x"}}, api.Delta{drop(1), keep(most - 1), put("x")}, api.OK},
		{"all new", most, []api.Change{{Lo: 0, Hi: most, Text: long[:most]}}, api.Delta{put(long[:most]), drop(most)}, api.OK},
		{"all new and one more", most, []api.Change{{Lo: 0, Hi: most, Text: long}}, nil, api.ErrLong},
		{"much put", 0, []api.Change{{Text: long[:most]}}, api.Delta{put(long[:most])}, api.OK},
		{"too much put", 0, []api.Change{{Text: long}}, nil, api.ErrLong},
		{"too much put by two", 0, []api.Change{{Text: long[:most]}, {Text: "x"}}, nil, api.ErrLong},
		{"too much put by many", 0, slices.Repeat([]api.Change{{Text: long}}, 40), nil, api.ErrLong},
		{"crosses, too long", 3, []api.Change{{Lo: 1, Hi: 2, Text: long}, {Lo: 0, Hi: 1}}, nil, api.ErrCross},
		{"wrong, crosses, too long", 3, []api.Change{{Lo: 1, Hi: 2, Text: long}, {Lo: 0, Hi: 1}, {Lo: 3, Hi: 4}}, nil, api.ErrRange},
		{"wrong, too long", 3, []api.Change{{Lo: 1, Hi: 2, Text: long}, {Lo: 3, Hi: 2}}, nil, api.ErrRange},
		{"crosses further on", 9, []api.Change{{Lo: 1, Hi: 2}, {Lo: 3, Hi: 5}, {Lo: 5, Hi: 5, Text: "x"}, {Lo: 4, Hi: 6}}, nil, api.ErrCross},
		{"the same bytes twice", 9, []api.Change{{Lo: 1, Hi: 2}, {Lo: 1, Hi: 2}}, nil, api.ErrCross},
		{"the same place twice", 9, []api.Change{{Lo: 1, Hi: 1, Text: "x"}, {Lo: 1, Hi: 1, Text: "y"}}, written("=1 +xy =8"), api.OK},
		{"not in order", 9, []api.Change{{Lo: 3, Hi: 4}, {Lo: 1, Hi: 2}}, nil, api.ErrCross},
		{"puts not in order", 9, []api.Change{{Lo: 3, Hi: 3, Text: "x"}, {Lo: 1, Hi: 1, Text: "y"}}, nil, api.ErrCross},
		{"nothing done", 9, []api.Change{{Lo: 3, Hi: 3}, {Lo: 3, Hi: 3}, {Lo: 5, Hi: 5}}, written("=9"), api.OK},
	} {
		if got, err := delta.Of(c.n, c.cs); !slices.Equal(got, c.want) || err != c.err {
			t.Errorf("%s:%s, %d, want%s, %d", c.name, told(got), err, told(c.want), c.err)
		}
	}
}
