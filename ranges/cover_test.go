package ranges_test

import (
	"fmt"
	"math/rand"
	"slices"
	"testing"

	"galley/api"
	"galley/ranges"
)

// hits are pieces, of two places each.
func hits(places ...int) []api.Hit {
	var list []api.Hit
	for i := 0; i < len(places); i += 2 {
		list = append(list, api.Hit{Lo: places[i], Hi: places[i+1]})
	}
	return list
}

// Ranges given by their two places: they overlap, touch, lie one in the other, lie apart.
func TestP16_1Cover(t *testing.T) {
	for _, c := range []struct {
		name         string
		places, want []api.Hit
	}{
		{"none", nil, nil},
		{"one", hits(3, 5), hits(3, 5)},
		{"all", hits(0, 20), hits(0, 20)},
		{"one byte at each end", hits(0, 1, 19, 20), hits(0, 1, 19, 20)},
		{"overlapping", hits(3, 8, 5, 10), hits(3, 10)},
		{"overlapping by one byte", hits(3, 8, 7, 10), hits(3, 10)},
		{"touching", hits(3, 8, 8, 10), hits(3, 10)},
		{"apart by one byte", hits(3, 8, 9, 10), hits(3, 8, 9, 10)},
		{"apart", hits(3, 4, 15, 20), hits(3, 4, 15, 20)},
		{"one in the other", hits(3, 10, 5, 7), hits(3, 10)},
		{"one in the other, one Lo", hits(3, 10, 3, 7), hits(3, 10)},
		{"one in the other, one Hi", hits(3, 10, 5, 10), hits(3, 10)},
		{"one and the same", hits(3, 10, 3, 10), hits(3, 10)},
		{"behind one in the other", hits(3, 10, 4, 5, 6, 8, 9, 12, 13, 14), hits(3, 12, 13, 14)},
		{"touching what was joined", hits(3, 10, 4, 5, 10, 12), hits(3, 12)},
		{"a chain", hits(0, 2, 1, 4, 4, 6, 5, 9, 10, 11, 11, 12, 14, 15), hits(0, 9, 10, 12, 14, 15)},
	} {
		for turn := range 5 {
			r, _ := made(t, 20)
			for i := range c.places {
				at := c.places[(i+turn)%len(c.places)]
				r = set(t, r, of(fmt.Sprint(i), at.Lo, at.Hi, (i+turn)%4))
			}
			if got := r.Cover(); !slices.Equal(got, c.want) {
				t.Errorf("%s: %v, want %v", c.name, got, c.want)
			}
		}
	}
	r, _ := made(t, most, holds("a", 0, most-2), takes("b", most-1, most))
	if got := r.Cover(); !slices.Equal(got, hits(0, most-2, most-1, most)) {
		t.Errorf("of MaxText bytes: %v", got)
	}
}

// holdCover: the pieces rise, with a byte between each two; what they have is what is in some range; and Over tells the same of each byte.
func holdCover(t *testing.T, r *ranges.Ranges) {
	t.Helper()
	pieces, list := r.Cover(), r.List()
	sum, end := 0, -1
	for _, x := range pieces {
		if x.Lo <= end || x.Lo >= x.Hi || x.Hi > r.Len() {
			t.Fatalf("Cover: %v", pieces)
		}
		sum, end = sum+x.Hi-x.Lo, x.Hi
	}
	count := 0
	for p := range r.Len() {
		in := slices.ContainsFunc(list, func(x api.Range) bool { return x.Lo <= p && p < x.Hi })
		if in {
			count++
		}
		if has := slices.ContainsFunc(pieces, func(x api.Hit) bool { return x.Lo <= p && p < x.Hi }); has != in || has != (len(r.Over(p, p+1)) != 0) {
			t.Fatalf("the byte at %d: in a range: %v, in a piece: %v, Over:%s", p, in, has, shown(r.Over(p, p+1)...))
		}
	}
	if sum != count {
		t.Fatalf("Cover: %v: %d bytes, want %d", pieces, sum, count)
	}
	for _, p := range []int{least, -1, r.Len(), greatest - 1} {
		if got := r.Over(p, p+1); len(got) != 0 {
			t.Fatalf("Over(%d, %d):%s", p, p+1, shown(got...))
		}
	}
}

// Every set of pieces of a short text.
func TestP16_4CoverOfAllSets(t *testing.T) {
	t.Parallel()
	var places []api.Hit
	for lo := range 4 {
		for hi := lo + 1; hi <= 4; hi++ {
			places = append(places, api.Hit{Lo: lo, Hi: hi})
		}
	}
	for chosen := range 1 << len(places) {
		var list []api.Range
		for i, at := range places {
			if chosen>>i&1 == 1 {
				list = append(list, of(fmt.Sprint(i), at.Lo, at.Hi, i%4))
			}
		}
		r, want := made(t, 4, list...)
		hold(t, r, want)
		holdCover(t, r)
	}
}

func TestP16_4CoverByChance(t *testing.T) {
	t.Parallel()
	rng := rand.New(rand.NewSource(164))
	for range 400 {
		n := 1 + rng.Intn(80)
		var list []api.Range
		for i := range rng.Intn(14) {
			lo := rng.Intn(n)
			list = append(list, of(fmt.Sprint(i), lo, lo+1+rng.Intn(min(n-lo, 9)), rng.Intn(4)))
		}
		r, want := made(t, n, list...)
		hold(t, r, want)
		holdCover(t, r)
		r, _ = behind(t, r, byChance(rng, n))
		holdCover(t, r)
	}
	r, want := made(t, 300, many(300)...)
	hold(t, r, want)
	holdCover(t, r)
}
