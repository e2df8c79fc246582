package rope_test

import (
	"bytes"
	"slices"
	"testing"

	"galley/api"
	"galley/rope"
)

func TestP9_5Examples(t *testing.T) {
	r := made(t, []byte(example))
	if got := ahead(t, r.Pieces(3, true)); string(got) != "h\xc3\xa9" {
		t.Errorf("Pieces(3, true): % x", got)
	}
	if got := behind(t, r.Pieces(3, false)); string(got) != "llo" {
		t.Errorf("Pieces(3, false): % x", got)
	}
	for _, none := range []struct {
		from int
		back bool
	}{{6, false}, {0, true}} {
		if got := behind(t, r.Pieces(none.from, none.back)); len(got) != 0 {
			t.Errorf("Pieces(%d, %t): % x", none.from, none.back, got)
		}
	}
}

func TestP9_5EveryPlace(t *testing.T) {
	fewTexts(func(b []byte) {
		r := made(t, b)
		for from := range len(b) + 1 {
			holdPieces(t, r, from, b)
		}
	})
	for _, w := range ways {
		b := steps(4500, 1)
		r := w.make(t, b)
		for from := range len(b) + 1 {
			holdPieces(t, r, from, b)
		}
	}
	longTexts(func(_ string, b []byte) {
		r := made(t, b)
		for _, from := range manyPlaces(len(b)) {
			holdPieces(t, r, from, b)
		}
	})
}

func TestP9_5NoPlace(t *testing.T) {
	for _, b := range [][]byte{nil, []byte("a"), []byte(example), steps(4096, 1), steps(9000, 2)} {
		r := made(t, b)
		for _, from := range append(slices.Clone(noPlaces), len(b)+1, len(b)+2) {
			for _, back := range []bool{false, true} {
				if got := behind(t, r.Pieces(from, back)); len(got) != 0 {
					t.Errorf("Pieces(%d, %t) of %d bytes: %s", from, back, len(b), short(got))
				}
			}
		}
	}
}

// R8: an iterator may be gone over again, also within itself, and gives the same whatever was done since.
func TestP9_5Again(t *testing.T) {
	for _, w := range ways {
		b := steps(9000, 3)
		r := w.make(t, b)
		on, back := r.Pieces(4000, false), r.Pieces(4000, true)
		for range 3 {
			if !bytes.Equal(behind(t, on), b[4000:]) || !bytes.Equal(ahead(t, back), b[:4000]) {
				t.Fatalf("%s: gone over again, it is unlike", w.name)
			}
			r = replace(t, r, 10, 5000, []byte("xyz"))
			r = join(t, r, r)
		}
		var all []byte
		for piece := range on {
			if !bytes.Equal(behind(t, on), b[4000:]) || !bytes.Equal(ahead(t, back), b[:4000]) {
				t.Fatalf("%s: gone over within itself, it is unlike", w.name)
			}
			all = append(all, piece...)
		}
		if !bytes.Equal(all, b[4000:]) {
			t.Fatalf("%s: with another one within, it is unlike", w.name)
		}
	}
}

// Who stops early gets no more: not at the first piece, and not at any other.
func TestP9_5StoppedEarly(t *testing.T) {
	for _, w := range ways {
		b := steps(9000, 4)
		r := w.make(t, b)
		for _, back := range []bool{false, true} {
			for _, from := range []int{0, 1, 4095, 4500, 8999, 9000} {
				seq := r.Pieces(from, back)
				total := 0
				for range seq {
					total++
				}
				for stop := 1; stop <= total; stop++ {
					calls := 0
					seq(func([]byte) bool {
						calls++
						return calls < stop
					})
					if calls != stop {
						t.Fatalf("%s: Pieces(%d, %t), stopped at %d, gave %d", w.name, from, back, stop, calls)
					}
				}
			}
			holdText(t, r, b)
		}
	}
}

// R6: each piece is new memory: all may be written over, spare room too, while they are gone over and later.
func TestP9_5PiecesAreNew(t *testing.T) {
	for _, w := range ways {
		for _, b := range [][]byte{[]byte("a"), []byte(example), steps(4096, 5), steps(9000, 6)} {
			r := w.make(t, b)
			for _, from := range manyPlaces(len(b)) {
				holdSpoilt(t, r, b, from)
			}
			holdRope(t, r, b)
		}
	}
}

func holdSpoilt(t *testing.T, r *rope.Rope, b []byte, from int) {
	t.Helper()
	for _, back := range []bool{false, true} {
		seq := r.Pieces(from, back)
		at := from
		var kept [][]byte
		for piece := range seq {
			want := b[at:min(len(b), at+len(piece))]
			if back {
				want = b[max(0, at-len(piece)):at]
				at -= len(piece)
			} else {
				at += len(piece)
			}
			if !bytes.Equal(piece, want) {
				t.Fatalf("Pieces(%d, %t): %s, want %s", from, back, short(piece), short(want))
			}
			for _, other := range kept {
				spoil(other)
			}
			if !bytes.Equal(piece, want) {
				t.Fatalf("Pieces(%d, %t): two pieces share memory", from, back)
			}
			spoil(piece)
			kept = append(kept, piece)
		}
		if at != len(b) && !back || at != 0 && back {
			t.Fatalf("Pieces(%d, %t): ended at %d", from, back, at)
		}
	}
	got, err := r.Bytes(0, len(b))
	if err != api.OK || !bytes.Equal(got, b) {
		t.Fatalf("pieces written over: %s, %d, want %s", short(got), err, short(b))
	}
}

// A function that panics while pieces are gone over is the caller's: the rope and the iterator stay.
func TestP9_5CallerPanics(t *testing.T) {
	b := steps(9000, 7)
	r := made(t, b)
	for _, back := range []bool{false, true} {
		seq := r.Pieces(5000, back)
		func() {
			defer func() {
				if recover() != "piece" {
					t.Error("the panic was lost")
				}
			}()
			for range seq {
				panic("piece")
			}
		}()
		if back && !bytes.Equal(ahead(t, seq), b[:5000]) || !back && !bytes.Equal(behind(t, seq), b[5000:]) {
			t.Errorf("Pieces(5000, %t) is unlike behind a panic", back)
		}
	}
	holdRope(t, r, b)
}
