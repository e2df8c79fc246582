package marks_test

import (
	"fmt"
	"math/rand"
	"strings"
	"testing"

	"galley/api"
	"galley/marks"
)

// stage is marks as they once were, and the model of them.
type stage struct {
	m    *marks.Marks
	want model
}

// act does one call by chance, with arguments that are often wrong, and answers what becomes of the stage: nothing but itself, if the call is refused.
func act(t *testing.T, rng *rand.Rand, s stage) stage {
	t.Helper()
	var got *marks.Marks
	var err, wantErr api.Errno
	var want model
	var call string
	switch rng.Intn(6) {
	case 0, 1, 2:
		x := mark(nameByChance(rng), rng.Intn(s.want.n+3)-1, api.Gravity(rng.Intn(4)))
		call = fmt.Sprintf("Set(%s)", shown(x))
		got, err = s.m.Set(x)
		want, wantErr = s.want.set(x)
	case 3:
		name := nameByChance(rng)
		call = fmt.Sprintf("Drop(%q)", name)
		got, err = s.m.Drop(name)
		want, wantErr = s.want.drop(name)
	default:
		d := byChance(rng, max(0, s.want.n+rng.Intn(8)/7)) // sometimes of one byte more
		if rng.Intn(8) == 0 {
			d = append(d, keep(0))
		}
		call = fmt.Sprintf("Behind(%s)", told(d))
		got, err = s.m.Behind(d)
		want, wantErr = s.want.behind(d)
	}
	if err != wantErr || (got == nil) != (wantErr != api.OK) {
		t.Fatalf("%s of%s, %d bytes: nil: %v, %d, want %d", call, shown(s.want.list...), s.want.n, got == nil, err, wantErr)
	}
	if wantErr != api.OK {
		return s
	}
	return stage{got, want}
}

// nameByChance is one of few, so that it is often there already; sometimes one that may not be.
func nameByChance(rng *rand.Rand) string {
	switch rng.Intn(12) {
	case 0:
		return ""
	case 1:
		return strings.Repeat("\xe9", 63+rng.Intn(3))
	}
	return strings.Repeat(string([]byte{byte(rng.Intn(4) * 80)}), 1+rng.Intn(3))
}

// Calls in any order, each from any marks that there ever were: all of them stay as they were.
func TestP15_1To5Scripts(t *testing.T) {
	t.Parallel()
	rng := rand.New(rand.NewSource(1515))
	for range 60 {
		n := rng.Intn(12)
		m, want := made(t, n)
		stages := []stage{{m, want}}
		for range 80 {
			s := stages[len(stages)-1]
			if rng.Intn(4) == 0 {
				s = stages[rng.Intn(len(stages))]
			}
			next := act(t, rng, s)
			hold(t, next.m, next.want)
			stages = append(stages, next)
		}
		for _, s := range stages {
			hold(t, s.m, s.want)
		}
	}
}

// Each call leaves the marks that it is called of as they were, refused or not.
func TestR4AndP15NeverChange(t *testing.T) {
	list := append(everywhere(3), mark("a", 1, api.Left))
	m, want := made(t, 3, list...)
	calls := []struct {
		name string
		call func()
	}{
		{"Set of a new one", func() { m.Set(mark("b", 2, api.Right)) }},
		{"Set of one that is there", func() { m.Set(mark("a", 3, api.Right)) }},
		{"Set of no name", func() { m.Set(mark("", 3, api.Right)) }},
		{"Set at no place", func() { m.Set(mark("a", 4, api.Right)) }},
		{"Drop", func() { m.Drop("a") }},
		{"Drop of none", func() { m.Drop("b") }},
		{"Behind", func() { m.Behind(written("+xy -2 =1 +z")) }},
		{"Behind, all dropped", func() { m.Behind(written("-3")) }},
		{"Behind of a wrong one", func() { m.Behind(written("-3 +x")) }},
		{"Behind of one that doesn't fit", func() { m.Behind(written("-4")) }},
		{"List", func() { m.List() }},
		{"Between", func() { m.Between(1, 2) }},
		{"Get of none", func() { m.Get("b") }},
	}
	for _, c := range calls {
		t.Run(c.name, func(t *testing.T) {
			c.call()
			hold(t, m, want)
			if x, there := m.Get("b"); x != (api.Mark{}) || there {
				t.Errorf("Get(b):%s, %v", shown(x), there)
			}
		})
	}
}

// What becomes of others that were made of the same marks doesn't touch one another.
func TestP15OthersStandApart(t *testing.T) {
	m, want := made(t, 3, mark("a", 1, api.Left))
	one, _ := m.Behind(written("=3"))
	other, _ := m.Behind(written("=3"))
	one = set(t, one, mark("b", 2, api.Left))
	gone, _ := other.Drop("a")
	hold(t, m, want)
	hold(t, other, want)
	hold(t, gone, model{n: 3})
	hold(t, one, model{3, []api.Mark{mark("a", 1, api.Left), mark("b", 2, api.Left)}})
}
