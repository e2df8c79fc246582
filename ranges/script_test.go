package ranges_test

import (
	"fmt"
	"math/rand"
	"slices"
	"strings"
	"testing"

	"galley/api"
	"galley/ranges"
)

// stage is ranges as they once were, and the model of them.
type stage struct {
	r    *ranges.Ranges
	want model
}

// act does one call by chance, with arguments that are often wrong, and answers what becomes of the stage: nothing but itself, if the call is refused.
func act(t *testing.T, rng *rand.Rand, s stage) stage {
	t.Helper()
	var got *ranges.Ranges
	var err, wantErr api.Errno
	var want model
	var gone, wantGone []string
	var call string
	switch rng.Intn(7) {
	case 0, 1, 2, 3:
		lo := rng.Intn(s.want.n+2) - 1
		x := api.Range{Name: nameByChance(rng), Lo: lo, Hi: lo + rng.Intn(s.want.n+2), Start: gravityByChance(rng), End: gravityByChance(rng)}
		call = fmt.Sprintf("Set(%s)", shown(x))
		got, err = s.r.Set(x)
		want, wantErr = s.want.set(x)
	case 4:
		name := nameByChance(rng)
		call = fmt.Sprintf("Drop(%q)", name)
		got, err = s.r.Drop(name)
		want, wantErr = s.want.drop(name)
	default:
		d := byChance(rng, s.want.n+rng.Intn(8)/7) // sometimes of one byte more
		if rng.Intn(8) == 0 {
			d = append(d, keep(0))
		}
		call = fmt.Sprintf("Behind(%s)", told(d))
		got, gone, err = s.r.Behind(d)
		want, wantGone, wantErr = s.want.behind(d)
	}
	if err != wantErr || (got == nil) != (wantErr != api.OK) || !slices.Equal(gone, wantGone) {
		t.Fatalf("%s of%s, %d bytes: nil: %v, %q, %d, want %q, %d", call, shown(s.want.list...), s.want.n, got == nil, gone, err, wantGone, wantErr)
	}
	if wantErr != api.OK {
		return s
	}
	return stage{got, want}
}

// nameByChance is one of few, so that it is often there already; sometimes one that may not be.
func nameByChance(rng *rand.Rand) string {
	switch rng.Intn(16) {
	case 0:
		return ""
	case 1:
		return strings.Repeat("\xe9", 63+rng.Intn(3))
	}
	return strings.Repeat(string([]byte{byte(rng.Intn(4) * 80)}), 1+rng.Intn(3))
}

// gravityByChance is seldom none.
func gravityByChance(rng *rand.Rand) api.Gravity {
	if rng.Intn(12) == 0 {
		return noGravities[rng.Intn(len(noGravities))]
	}
	return pairs[1][rng.Intn(2)]
}

// Calls in any order, each from any ranges that there ever were: all of them stay as they were.
func TestP16_1AndP16_2Scripts(t *testing.T) {
	t.Parallel()
	rng := rand.New(rand.NewSource(1616))
	for range 80 {
		n := rng.Intn(14)
		r, want := made(t, n)
		stages := []stage{{r, want}}
		for range 80 {
			s := stages[len(stages)-1]
			if rng.Intn(3) == 0 {
				s = stages[rng.Intn(len(stages))]
			}
			next := act(t, rng, s)
			hold(t, next.r, next.want)
			stages = append(stages, next)
		}
		for _, s := range stages {
			hold(t, s.r, s.want)
		}
	}
}

// Each call leaves the ranges that it is called of as they were, refused or not.
func TestR4AndP16_2NeverChange(t *testing.T) {
	list := append(everywhere(3), holds("a", 1, 2))
	r, want := made(t, 3, list...)
	calls := []struct {
		name string
		call func()
	}{
		{"Set of a new one", func() { r.Set(takes("b", 2, 3)) }},
		{"Set of one that is there", func() { r.Set(takes("a", 0, 3)) }},
		{"Set of no name", func() { r.Set(takes("", 0, 3)) }},
		{"Set of no bytes", func() { r.Set(takes("a", 1, 1)) }},
		{"Set beyond the text", func() { r.Set(takes("a", 1, 4)) }},
		{"Set of no gravity", func() { r.Set(api.Range{Name: "a", Hi: 3}) }},
		{"Drop", func() { r.Drop("a") }},
		{"Drop of none", func() { r.Drop("b") }},
		{"Behind", func() { r.Behind(written("+xy -2 =1 +z")) }},
		{"Behind, all dropped", func() { r.Behind(written("-3")) }},
		{"Behind, all kept", func() { r.Behind(written("=3")) }},
		{"Behind of a wrong one", func() { r.Behind(written("-3 +x")) }},
		{"Behind of one that doesn't fit", func() { r.Behind(written("-4")) }},
		{"List", func() { r.List() }},
		{"Over", func() { r.Over(1, 2) }},
		{"Cover", func() { r.Cover() }},
		{"Get of none", func() { r.Get("b") }},
	}
	for _, c := range calls {
		t.Run(c.name, func(t *testing.T) {
			c.call()
			hold(t, r, want)
			if x, there := r.Get("b"); x != (api.Range{}) || there {
				t.Errorf("Get(b):%s, %v", shown(x), there)
			}
		})
	}
}

// What becomes of others that were made of the same ranges doesn't touch one another.
func TestP16_2OthersStandApart(t *testing.T) {
	r, want := made(t, 3, holds("a", 1, 2))
	one, _ := behind(t, r, written("=3"))
	other, _ := behind(t, r, written("=3"))
	one = set(t, one, takes("b", 2, 3))
	less, _ := other.Drop("a")
	hold(t, r, want)
	hold(t, other, want)
	hold(t, less, model{n: 3})
	hold(t, one, model{3, []api.Range{holds("a", 1, 2), takes("b", 2, 3)}})
	again := set(t, less, takes("a", 0, 3))
	hold(t, again, model{3, []api.Range{takes("a", 0, 3)}})
	hold(t, less, model{n: 3})
	hold(t, r, want)
}
