package diff

// run is a run of numbers that stands in two lists: n of them, from i on in the one, from j on in the other.
type run struct {
	i, j, n int
}

// common: a longest list that stands in both, as runs that rise. The last run ends where both lists end, so it may have none.
func common(x, y []int) []run {
	head := sameHead(x, y)
	x, y = x[head:], y[head:]
	tail := sameTail(x, y)
	x, y = x[:len(x)-tail], y[:len(y)-tail]
	runs := []run{{0, 0, head}}
	length := lengths(x, y)
	for i, j := 0, 0; i < len(x) && j < len(y); {
		switch {
		case x[i] == y[j]:
			runs = append(runs, run{head + i, head + j, 1})
			i, j = i+1, j+1
		case length(i+1, j) >= length(i, j+1):
			i++
		default:
			j++
		}
	}
	return append(runs, run{head + len(x), head + len(y), tail})
}

// sameHead: with how many numbers both begin. Some longest list has all of these, so they need no table.
func sameHead(x, y []int) int {
	n := 0
	for n < len(x) && n < len(y) && x[n] == y[n] {
		n++
	}
	return n
}

// sameTail: with how many both end, likewise.
func sameTail(x, y []int) int {
	n := 0
	for n < len(x) && n < len(y) && x[len(x)-1-n] == y[len(y)-1-n] {
		n++
	}
	return n
}

// side is how many rows a square has, and how many columns.
const side = 32

// square is a part of a table. Tables are made of squares, so that one for short lists is small.
type square [side][side]uint16

// lengths answers a closure that tells how long the longest list is that stands both in x from i on and in y from j on.
func lengths(x, y []int) func(i, j int) int {
	across := len(y)/side + 1
	squares := make([]square, (len(x)/side+1)*across)
	length := func(i, j int) int {
		return int(squares[i/side*across+j/side][i%side][j%side])
	}
	for i := len(x) - 1; i >= 0; i-- {
		for j := len(y) - 1; j >= 0; j-- {
			n := max(length(i+1, j), length(i, j+1))
			if x[i] == y[j] {
				n = length(i+1, j+1) + 1
			}
			squares[i/side*across+j/side][i%side][j%side] = uint16(n)
		}
	}
	return length
}
