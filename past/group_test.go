package past_test

import (
	"fmt"
	"slices"
	"testing"

	"galley/api"
)

// A group with Dos in it is one step, with the group's word and the state at its beginning; one without is none.
func TestP17_4GroupIsOneStep(t *testing.T) {
	for _, room := range []int{1, 2, 3, most} {
		for ahead := range 5 {
			for dos := range 5 {
				x := made(t, 0, room)
				for i := range ahead {
					x.do(t, i+1, fmt.Sprint("w", i))
				}
				was, _ := x.p.Words()
				x.begin(t, "group")
				for i := range dos {
					x.do(t, 100+i, "lost")
					expect(t, "Now in a group", all(x.p.Now()), 100+i)
				}
				inside, _ := x.p.Words()
				if !slices.Equal(inside, was) {
					t.Errorf("in a group: %q, want %q", inside, was)
				}
				x.end(t)
				if dos == 0 {
					expect(t, "Words behind a group without Dos", two(x.p.Words()), was, []string{})
					expect(t, "Now behind a group without Dos", all(x.p.Now()), ahead)
					x.unwind(t)
					continue
				}
				want := append([]string{"group"}, was...)
				expect(t, "Words behind a group", two(x.p.Words()), want[:min(room, len(want))], []string{})
				expect(t, "Undo of a group", three(x.p.Undo()), ahead, "group", api.OK)
				expect(t, "Redo of a group", three(x.p.Redo()), 99+dos, "group", api.OK)
				x.unwind(t)
			}
		}
	}
}

// Where there are most steps already, a group with Dos loses the farthest one at its End and not ahead of that; one without loses none.
func TestP17_3And4GroupWithoutRoom(t *testing.T) {
	x := made(t, 0, 2)
	x.do(t, 1, "one")
	x.do(t, 2, "two")
	x.begin(t, "none")
	x.end(t)
	expect(t, "Words behind a group without Dos", two(x.p.Words()), []string{"two", "one"}, []string{})
	x.begin(t, "some")
	x.do(t, 3, "lost")
	x.do(t, 4, "lost")
	expect(t, "Words in the group", two(x.p.Words()), []string{"two", "one"}, []string{})
	x.end(t)
	expect(t, "Words behind it", two(x.p.Words()), []string{"some", "two"}, []string{})
	expect(t, "Undo", three(x.p.Undo()), 2, "some", api.OK)
	expect(t, "Undo", three(x.p.Undo()), 1, "two", api.OK)
	expect(t, "Undo", three(x.p.Undo()), 0, "", api.ErrPast)
}

// The steps again outlive a group without Dos, however often; the first Do of a group loses them, while it is open still.
func TestP17_4GroupAndStepsAgain(t *testing.T) {
	x := made(t, 0, 3)
	for i := range 3 {
		x.do(t, i+1, fmt.Sprint("w", i))
	}
	x.undo(t)
	x.undo(t)
	for range 3 {
		x.begin(t, "none")
		expect(t, "Words in the group", two(x.p.Words()), []string{"w0"}, []string{"w1", "w2"})
		x.end(t)
		expect(t, "Words behind it", two(x.p.Words()), []string{"w0"}, []string{"w1", "w2"})
	}
	expect(t, "Redo", three(x.p.Redo()), 2, "w1", api.OK)
	expect(t, "Undo", three(x.p.Undo()), 1, "w1", api.OK)
	x.begin(t, "some")
	x.do(t, 50, "lost")
	expect(t, "Words in the group", two(x.p.Words()), []string{"w0"}, []string{})
	x.end(t)
	expect(t, "Words behind it", two(x.p.Words()), []string{"some", "w0"}, []string{})
	expect(t, "Redo", three(x.p.Redo()), 0, "", api.ErrPast)
	x.same(t, x.undo(t), api.OK)
	expect(t, "Now", all(x.p.Now()), 1)
	x.unwind(t)
}

// A group whose last Do puts back the state of its beginning is a step all the same.
func TestP17_4GroupThatChangesNothing(t *testing.T) {
	x := made(t, "a", 2)
	x.begin(t, "")
	x.do(t, "b", "")
	x.do(t, "a", "")
	x.end(t)
	expect(t, "Words", two(x.p.Words()), []string{""}, []string{})
	x.begin(t, "same")
	x.do(t, "a", "")
	x.end(t)
	expect(t, "Words", two(x.p.Words()), []string{"same", ""}, []string{})
	x.unwind(t)
}

// What was done in one group is nothing to the next one.
func TestP17_4GroupsOneBehindTheOther(t *testing.T) {
	x := made(t, 0, 3)
	for i := range 6 {
		x.begin(t, fmt.Sprint("group ", i))
		if i%2 == 0 {
			x.do(t, i+1, "lost")
		}
		x.end(t)
		x.hold(t)
	}
	expect(t, "Words", two(x.p.Words()), []string{"group 4", "group 2", "group 0"}, []string{})
	x.unwind(t)
}
