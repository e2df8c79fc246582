package rope_test

import (
	"bytes"
	"math/rand"
	"slices"
	"strings"
	"testing"

	"galley/api"
	"galley/rope"
)

// asked calls First, and holds what is asked: measures of beginnings alone, during the call alone. It answers First's answer, and of which beginnings enough was true when it was asked.
func asked(t *testing.T, r *rope.Rope, measures []api.Weld, enough func(api.Weld) bool) (int, map[int]bool) {
	t.Helper()
	trueOf := map[int]bool{}
	over := false
	got := r.First(func(w api.Weld) bool {
		if over {
			t.Fatal("asked behind the call")
		}
		n := w.Sizes.Bytes
		if n < 0 || n >= len(measures) || w != measures[n] {
			t.Fatalf("asked of %+v, which is no beginning's measure", w)
		}
		answer := enough(w)
		if answer {
			trueOf[n] = true
		}
		return answer
	})
	over = true
	return got, trueOf
}

// holdFirst: the answer of a lasting function, by going over all beginnings.
func holdFirst(t *testing.T, r *rope.Rope, measures []api.Weld, enough func(api.Weld) bool) {
	t.Helper()
	want := slices.IndexFunc(measures, enough)
	if got, _ := asked(t, r, measures, enough); got != want {
		t.Fatalf("First of %d bytes is %d, want %d", r.Len(), got, want)
	}
}

// holdSome: of a function that isn't lasting, -1 or a beginning of which it was true.
func holdSome(t *testing.T, r *rope.Rope, measures []api.Weld, enough func(api.Weld) bool) {
	t.Helper()
	if got, were := asked(t, r, measures, enough); got != -1 && !were[got] {
		t.Fatalf("First of %d bytes is %d, of which it was not true", r.Len(), got)
	}
}

func bytesFrom(n int) func(api.Weld) bool {
	return func(w api.Weld) bool { return w.Sizes.Bytes >= n }
}

func endsFrom(n int) func(api.Weld) bool {
	return func(w api.Weld) bool { return w.Sizes.Ends >= n }
}

func always(api.Weld) bool { return true }

func never(api.Weld) bool { return false }

func TestP9_4Examples(t *testing.T) {
	r := made(t, []byte(example))
	for _, x := range []struct {
		name   string
		enough func(api.Weld) bool
		want   int
	}{
		{"3 bytes", bytesFrom(3), 3}, {"6 bytes", bytesFrom(6), 6}, {"7 bytes", bytesFrom(7), -1}, {"1 line end", endsFrom(1), -1},
		{"always", always, 0}, {"never", never, -1}, {"nil", nil, -1},
	} {
		if got := r.First(x.enough); got != x.want {
			t.Errorf("%s: %d, want %d", x.name, got, x.want)
		}
	}
}

func TestP9_4NoBytes(t *testing.T) {
	for _, r := range []*rope.Rope{nil, made(t, nil), replace(t, made(t, []byte("a")), 0, 1, nil)} {
		if r.First(nil) != -1 || r.First(always) != 0 || r.First(never) != -1 {
			t.Errorf("of no bytes: %d, %d, %d", r.First(nil), r.First(always), r.First(never))
		}
		calls := 0
		got, _ := asked(t, r, []api.Weld{{}}, func(api.Weld) bool { calls++; return false })
		if got != -1 || calls == 0 {
			t.Errorf("asked %d times: %d", calls, got)
		}
		if got, _ := asked(t, r, []api.Weld{{}}, bytesFrom(0)); got != 0 {
			t.Errorf("at least no bytes: %d", got)
		}
		if got, _ := asked(t, r, []api.Weld{{}}, bytesFrom(1)); got != -1 {
			t.Errorf("at least one byte: %d", got)
		}
	}
}

// holdLasting: functions that are lasting, for many numbers.
func holdLasting(t *testing.T, r *rope.Rope, b []byte) {
	t.Helper()
	measures := beginnings(b)
	for _, n := range append(manyPlaces(len(b)), -1, least, greatest, len(b)+1) {
		holdFirst(t, r, measures, bytesFrom(n))
	}
	most := measures[len(b)].Sizes.Ends
	for _, n := range append(manyPlaces(most), -1, most+1) {
		holdFirst(t, r, measures, endsFrom(n))
	}
	holdFirst(t, r, measures, always)
	holdFirst(t, r, measures, never)
	for _, head := range []string{"", "a", "\xe2\x82", "\r\n", string(b[:min(len(b), 2)]), string(b[:min(len(b), 3)])} {
		holdFirst(t, r, measures, func(w api.Weld) bool { return strings.HasPrefix(w.Head, head) })
	}
	holdFirst(t, r, measures, func(w api.Weld) bool { return w.Sizes.Ends > 2 && w.Sizes.Bytes > len(b)/2 })
	holdFirst(t, r, measures, func(w api.Weld) bool { return w.Sizes.Ends > most/2 || w.Sizes.Bytes > len(b)/3 })
	holdFirst(t, r, measures, func(w api.Weld) bool { return w.Sizes.Bytes+7*w.Sizes.Ends > len(b) })
	if r.First(nil) != -1 {
		t.Fatalf("First(nil) is %d", r.First(nil))
	}
}

func TestP9_4Lasting(t *testing.T) {
	t.Parallel()
	fewTexts(func(b []byte) { holdLasting(t, made(t, b), b) })
	longTexts(func(_ string, b []byte) { holdLasting(t, made(t, b), b) })
	for i, w := range ways {
		for _, b := range [][]byte{steps(4096+i, int64(i)), mixed(8200, int64(i), leastBytes), bytes.Repeat([]byte("x\r\n"), 1400)} {
			holdLasting(t, w.make(t, b), b)
		}
	}
}

// Every length and every line end of a text of several leaves, CR LF over their joints too.
func TestP9_4EveryPlace(t *testing.T) {
	t.Parallel()
	b := slices.Concat(steps(4095, 1), bytes.Repeat([]byte("\r\n"), 600), mixed(4000, 2, leastBytes))
	measures := beginnings(b)
	for _, w := range []way{ways[0], ways[2], ways[5], ways[6]} {
		r := w.make(t, b)
		for n := range len(b) + 1 {
			if got := r.First(bytesFrom(n)); got != n {
				t.Fatalf("%s: at least %d bytes: %d", w.name, n, got)
			}
		}
		at := 0
		for n := range measures[len(b)].Sizes.Ends + 1 {
			for measures[at].Sizes.Ends < n {
				at++
			}
			if got := r.First(endsFrom(n)); got != at {
				t.Fatalf("%s: at least %d line ends: %d, want %d", w.name, n, got, at)
			}
		}
	}
}

// holdFree: functions that are not lasting.
func holdFree(t *testing.T, r *rope.Rope, b []byte, rng *rand.Rand) {
	t.Helper()
	measures := beginnings(b)
	for _, n := range manyPlaces(len(b)) {
		holdSome(t, r, measures, func(w api.Weld) bool { return w.Sizes.Runes >= n })
		holdSome(t, r, measures, func(w api.Weld) bool { return w.Sizes.Units >= n })
		holdSome(t, r, measures, func(w api.Weld) bool { return w.Sizes.Bytes == n })
		holdSome(t, r, measures, func(w api.Weld) bool { return w.Sizes.Bytes <= n })
		holdSome(t, r, measures, func(w api.Weld) bool { return w.Sizes.Bytes != n })
	}
	holdSome(t, r, measures, func(w api.Weld) bool { return w.Sizes.Bytes%2 == 1 })
	holdSome(t, r, measures, func(w api.Weld) bool { return strings.HasSuffix(w.Tail, "\n") })
	holdSome(t, r, measures, func(w api.Weld) bool { return w.Sizes.Runes == w.Sizes.Units && w.Sizes.Bytes > 0 })
	holdSome(t, r, measures, func(w api.Weld) bool { return w == api.Weld{} })
	// Answers that hang on nothing, or on how often it was asked.
	for range 5 {
		holdSome(t, r, measures, func(api.Weld) bool { return rng.Intn(2) == 0 })
		holdSome(t, r, measures, func(api.Weld) bool { return rng.Intn(5) == 0 })
		calls, from := 0, rng.Intn(6)
		holdSome(t, r, measures, func(api.Weld) bool { calls++; return calls > from })
		holdSome(t, r, measures, func(api.Weld) bool { calls++; return calls%2 == 0 })
	}
}

func TestP9_4NotLasting(t *testing.T) {
	rng := rand.New(rand.NewSource(3))
	texts(3, leastBytes, func(b []byte) { holdFree(t, made(t, b), b, rng) })
	for _, piece := range pieces {
		holdFree(t, made(t, []byte(piece+piece)), []byte(piece+piece), rng)
	}
	longTexts(func(_ string, b []byte) { holdFree(t, made(t, b), b, rng) })
	for _, w := range ways {
		b := steps(6000, 4)
		holdFree(t, w.make(t, b), b, rng)
	}
}

// The function may ask the rope itself, and may panic: the rope stays what it is.
func TestP9_4FunctionsOfTheCaller(t *testing.T) {
	b := steps(9000, 5)
	r := made(t, b)
	got := r.First(func(w api.Weld) bool {
		same, err := r.Before(w.Sizes.Bytes)
		if err != api.OK || same != w {
			t.Fatalf("asked of %+v, Before says %+v, %d", w, same, err)
		}
		replace(t, r, 0, w.Sizes.Bytes, nil)
		return r.First(bytesFrom(w.Sizes.Bytes)) >= 5000
	})
	if got != 5000 {
		t.Errorf("First is %d", got)
	}
	for after := range 12 {
		func() {
			defer func() {
				if recover() != "enough" {
					t.Error("the panic was lost")
				}
			}()
			r.First(func(w api.Weld) bool {
				if after--; after < 0 {
					panic("enough")
				}
				return w.Sizes.Bytes >= 4097
			})
		}()
	}
	holdRope(t, r, b)
}
