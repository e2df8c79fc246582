package diff_test

import (
	"fmt"
	"slices"
	"strings"
	"testing"
	"unicode/utf8"

	"galley/api"
	"galley/delta"
	"galley/diff"
)

func keep(n int) api.Op   { return api.Op{Kind: api.Keep, N: n} }
func drop(n int) api.Op   { return api.Op{Kind: api.Drop, N: n} }
func put(s string) api.Op { return api.Op{Kind: api.Put, Text: s} }

// told is a delta in a line that isn't too long.
func told(d api.Delta) string {
	var b strings.Builder
	for i, op := range d {
		if i == 20 {
			fmt.Fprintf(&b, " .. of %d", len(d))
			break
		}
		fmt.Fprintf(&b, " {%d %d %s}", op.Kind, op.N, short(op.Text))
	}
	return b.String()
}

// short is a text that may be long.
func short(s string) string {
	if len(s) > 60 {
		return fmt.Sprintf("%+q.. of %d", s[:60], len(s))
	}
	return fmt.Sprintf("%+q", s)
}

// rows calls f with every list of n out of some, in every order.
func rows[T any](n int, some []T, f func(list []T)) {
	list := make([]T, n)
	var fill func(i int)
	fill = func(i int) {
		if i == n {
			f(list)
			return
		}
		for _, x := range some {
			list[i] = x
			fill(i + 1)
		}
	}
	fill(0)
}

// texts are all texts of at most so many out of some.
func texts(most int, some ...string) []string {
	var all []string
	for n := range most + 1 {
		rows(n, some, func(list []string) { all = append(all, strings.Join(list, "")) })
	}
	return all
}

// stepsOf is a text's steps: an encoding where one begins, else a single byte.
func stepsOf(s string) []string {
	var all []string
	for s != "" {
		n := 1
		for w := 2; w <= 4 && w <= len(s); w++ {
			if utf8.ValidString(s[:w]) && utf8.RuneCountInString(s[:w]) == 1 {
				n = w
			}
		}
		all, s = append(all, s[:n]), s[n:]
	}
	return all
}

// piecesOf is a text's line pieces.
func piecesOf(s string) []string {
	var all []string
	from := 0
	for i := range len(s) {
		lf := s[i] == '\n'
		cr := s[i] == '\r' && (i+1 == len(s) || s[i+1] != '\n')
		if lf || cr {
			all, from = append(all, s[from:i+1]), i+1
		}
	}
	if from < len(s) {
		all = append(all, s[from:])
	}
	return all
}

// ends is where pieces begin and end.
func ends(pieces []string) map[int]bool {
	at := map[int]bool{0: true}
	n := 0
	for _, p := range pieces {
		n += len(p)
		at[n] = true
	}
	return at
}

// longest is how long the longest list is that stands in both: the last of x and of y are both in it, or it stands in what is ahead of one of them.
func longest(x, y []string) int {
	row := make([]int, len(y)+1)
	for _, p := range x {
		next := make([]int, len(y)+1)
		for j, q := range y {
			next[j+1] = max(next[j], row[j+1])
			if p == q {
				next[j+1] = max(next[j+1], row[j]+1)
			}
		}
		row = next
	}
	return row[len(y)]
}

// apart is how many pieces both have together, less two times those of the longest list.
func apart(x, y []string) int { return len(x) + len(y) - 2*longest(x, y) }

// do is what becomes of a text, where each operation began and ended in the old text and in the new one, what was dropped and what was put.
func do(a string, d api.Delta) (b string, old, made []int, dropped, puts []string) {
	at := 0
	for _, op := range d {
		switch op.Kind {
		case api.Keep:
			old, made = append(old, at, at+op.N), append(made, len(b), len(b)+op.N)
			b, at = b+a[at:at+op.N], at+op.N
		case api.Drop:
			old = append(old, at, at+op.N)
			dropped, at = append(dropped, a[at:at+op.N]), at+op.N
		case api.Put:
			made = append(made, len(b), len(b)+len(op.Text))
			puts, b = append(puts, op.Text), b+op.Text
		}
	}
	if at != len(a) {
		panic("bytes are left")
	}
	return b, old, made, dropped, puts
}

// all tells whether each of the places is there.
func all(places []int, at map[int]bool) bool {
	return !slices.ContainsFunc(places, func(p int) bool { return !at[p] })
}

// count is how many pieces texts have, each taken alone.
func count(texts []string, cut func(string) []string) int {
	n := 0
	for _, s := range texts {
		n += len(cut(s))
	}
	return n
}

// canonical is the chapter's word, of deltas of short texts.
func canonical(d api.Delta) bool {
	for i, op := range d {
		switch {
		case op.Kind == api.Put && (op.Text == "" || op.N != 0):
			return false
		case (op.Kind == api.Keep || op.Kind == api.Drop) && (op.Text != "" || op.N < 1):
			return false
		case op.Kind != api.Put && op.Kind != api.Keep && op.Kind != api.Drop:
			return false
		case i > 0 && (op.Kind == d[i-1].Kind || op.Kind == api.Put && d[i-1].Kind == api.Drop):
			return false
		}
	}
	return true
}

// leads holds that a delta leads from a to b, that it cuts no piece of either, and that it costs so much.
func leads(t *testing.T, name, a, b string, d api.Delta, cut func(string) []string, cost int) {
	t.Helper()
	if !canonical(d) || !delta.Valid(d) {
		t.Fatalf("%s(%s, %s):%s isn't canonical", name, short(a), short(b), told(d))
	}
	became, old, made, dropped, puts := do(a, d)
	if became != b {
		t.Fatalf("%s(%s, %s):%s makes %s", name, short(a), short(b), told(d), short(became))
	}
	if !all(old, ends(cut(a))) || !all(made, ends(cut(b))) {
		t.Fatalf("%s(%s, %s):%s cuts one", name, short(a), short(b), told(d))
	}
	if got := count(dropped, cut) + count(puts, cut); got != cost {
		t.Fatalf("%s(%s, %s):%s costs %d, want %d", name, short(a), short(b), told(d), got, cost)
	}
}

// holdSteps holds Distance, Least and what it costs against the chapter's words.
func holdSteps(t *testing.T, a, b string) {
	t.Helper()
	want := apart(stepsOf(a), stepsOf(b))
	if got, err := diff.Distance([]byte(a), []byte(b)); got != want || err != api.OK {
		t.Fatalf("Distance(%s, %s): %d, %d, want %d", short(a), short(b), got, err, want)
	}
	d, err := diff.Least([]byte(a), []byte(b))
	if err != api.OK {
		t.Fatalf("Least(%s, %s): %d", short(a), short(b), err)
	}
	leads(t, "Least", a, b, d, stepsOf, want)
	if got, err := diff.Cost([]byte(a), d); got != want || err != api.OK {
		t.Fatalf("Cost(%s,%s): %d, %d, want %d", short(a), told(d), got, err, want)
	}
	if became, err := delta.Apply([]byte(a), d); string(became) != b || err != api.OK {
		t.Fatalf("Apply(%s,%s): %s, %d", short(a), told(d), short(string(became)), err)
	}
}

// holdLines holds Lines against the chapter's words.
func holdLines(t *testing.T, a, b string) {
	t.Helper()
	d, err := diff.Lines([]byte(a), []byte(b))
	if err != api.OK {
		t.Fatalf("Lines(%s, %s): %d", short(a), short(b), err)
	}
	leads(t, "Lines", a, b, d, piecesOf, apart(piecesOf(a), piecesOf(b)))
}
