package shift

import "galley/api"

// moved: where a place is behind changes that rise and have a kept byte between each two.
func moved(changes []api.Change, place int, g api.Gravity) int {
	grown := 0
	for _, c := range changes {
		switch {
		case place < c.Lo:
			return place + grown
		case place <= c.Hi && g == api.Left:
			return c.Lo + grown
		case place <= c.Hi:
			return c.Lo + grown + len(c.Text)
		}
		grown += len(c.Text) - (c.Hi - c.Lo)
	}
	return place + grown
}

// passed: b over a, of two canonical ones of one length, as it comes. Both lists are gone over at one time: one that puts at a place does so ahead of its old bytes there, so that a place is done with when neither has a Put in front.
func passed(a, b api.Delta, first bool) api.Delta {
	var all api.Delta
	x, y := next(&a), next(&b)
places:
	for {
		switch {
		case y.Kind == api.Put && (first || x.Kind != api.Put):
			all = append(all, y)
			y = next(&b)
			continue places
		case x.Kind == api.Put:
			all = append(all, api.Op{Kind: api.Keep, N: len(x.Text)})
			x = next(&a)
			continue places
		case x.N == 0:
			// They are of one length, so that the other one ends here too.
			break places
		}
		n := min(x.N, y.N)
		if x.Kind == api.Keep {
			all = append(all, api.Op{Kind: y.Kind, N: n})
		}
		if x.N -= n; x.N == 0 {
			x = next(&a)
		}
		if y.N -= n; y.N == 0 {
			y = next(&b)
		}
	}
	return all
}

// next takes the first operation off a list; of none it is one that does nothing.
func next(rest *api.Delta) api.Op {
	if len(*rest) == 0 {
		return api.Op{}
	}
	op := (*rest)[0]
	*rest = (*rest)[1:]
	return op
}
