package diff

import (
	"galley/api"
	"galley/lines"
	"galley/step"
)

// cutter tells where a text's pieces begin, and where the last one ends; not ok: there are more than are compared.
type cutter func(b []byte) (cuts []int, ok bool)

// pieces is a text that was cut.
type pieces struct {
	bytes   []byte
	cuts    []int
	numbers []int // of the pieces: the same just for the same bytes
}

// longestStep is how many bytes a step may have.
const longestStep = 4

// stepCuts cuts a text at its edges.
func stepCuts(b []byte) ([]int, bool) {
	if len(b) > api.MaxDiff*longestStep {
		return nil, false
	}
	var cuts []int
	for place := range step.All(b) {
		cuts = append(cuts, place)
	}
	return append(cuts, len(b)), len(cuts) <= api.MaxDiff
}

// lineCuts cuts a text behind each line end.
func lineCuts(b []byte) ([]int, bool) {
	// Asked ahead of the list, which would be great too: so many line ends are too many.
	if _, _, _, err := lines.Line(b, api.MaxDiff+1); err == api.OK {
		return nil, false
	}
	cuts := lines.Starts(b)
	// A last line with nothing in it is no piece: it begins where the last piece ends.
	if cuts[len(cuts)-1] < len(b) {
		cuts = append(cuts, len(b))
	}
	return cuts, len(cuts)-1 <= api.MaxDiff
}

// cutBoth: both texts' pieces, numbered alike.
func cutBoth(a, b []byte, cut cutter) (x, y pieces, e api.Errno) {
	cutsA, okA := cut(a)
	cutsB, okB := cut(b)
	if !okA || !okB {
		return pieces{}, pieces{}, api.ErrGreat
	}
	known := map[string]int{}
	x = pieces{a, cutsA, numbered(a, cutsA, known)}
	y = pieces{b, cutsB, numbered(b, cutsB, known)}
	return x, y, api.OK
}

// numbered: the pieces' numbers, so that long pieces are read once, and not for each other one that they are held against.
func numbered(b []byte, cuts []int, known map[string]int) []int {
	var numbers []int
	for i := range len(cuts) - 1 {
		piece := b[cuts[i]:cuts[i+1]]
		n, ok := known[string(piece)]
		if !ok {
			n = len(known)
			known[string(piece)] = n
		}
		numbers = append(numbers, n)
	}
	return numbers
}

// steps: how many steps there are.
func steps(b []byte) int {
	n := 0
	for range step.All(b) {
		n++
	}
	return n
}
