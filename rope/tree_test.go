package rope

import (
	"bytes"
	"math/rand"
	"testing"

	"galley/api"
	"galley/weld"
)

// holdNode: a tree is as high as it says, balanced, of the measure that it says, and has no empty leaf. It answers the height, the bytes, and the leaves' lengths.
func holdNode(t *testing.T, n node) (int, []byte, []int) {
	t.Helper()
	switch x := n.(type) {
	case *fork:
		leftHigh, left, leftLens := holdNode(t, x.left)
		rightHigh, right, rightLens := holdNode(t, x.right)
		b, high := append(left, right...), max(leftHigh, rightHigh)+1
		if x.height() != high || leftHigh > rightHigh+1 || rightHigh > leftHigh+1 {
			t.Fatalf("a fork of heights %d and %d says %d", leftHigh, rightHigh, x.height())
		}
		if x.measure() != weld.Of(b) {
			t.Fatalf("a fork says %+v, want %+v", x.measure(), weld.Of(b))
		}
		return high, b, append(leftLens, rightLens...)
	case tip:
		b := x.leaf.Bytes()
		if len(b) == 0 || x.height() != 1 || x.measure() != weld.Of(b) {
			t.Fatalf("a tip of %d bytes says %d, %+v", len(b), x.height(), x.measure())
		}
		return 1, b, []int{len(b)}
	}
	t.Fatalf("a node that is neither: %v", n)
	return 0, nil, nil
}

// holdTree: what the bounds of the depth, and the calls' speed, stand on.
func holdTree(t *testing.T, r *Rope, want []byte) {
	t.Helper()
	if r.root == nil {
		if len(want) > 0 || r.Depth() != 0 {
			t.Fatalf("no node, depth %d, want %d bytes", r.Depth(), len(want))
		}
		return
	}
	high, b, lens := holdNode(t, r.root)
	if high != r.Depth() || !bytes.Equal(b, want) {
		t.Fatalf("%d bytes of height %d, want %d of height %d", len(b), high, len(want), r.Depth())
	}
	for i := 1; i < len(lens); i++ {
		if lens[i-1]+lens[i] <= maxMerged {
			t.Fatalf("leaves of %d and %d bytes stand side by side", lens[i-1], lens[i])
		}
	}
}

func TestP9_7TreesAreBalanced(t *testing.T) {
	t.Parallel()
	rng := rand.New(rand.NewSource(5))
	text := func(n int) []byte {
		b := make([]byte, n)
		for i := range b {
			b[i] = "a\r\n\xe2\x82\xac\xf0\x9f\x98\x80"[rng.Intn(10)]
		}
		return b
	}
	for _, most := range []int{1500, 60, 6000} {
		b := text(50000)
		r, err := New(b)
		if err != api.OK {
			t.Fatal(err)
		}
		holdTree(t, r, b)
		for i := range 200 {
			lo := rng.Intn(len(b) + 1)
			hi := min(len(b), lo+rng.Intn(most+1))
			switch i % 3 {
			case 0:
				put := text(rng.Intn(most))
				r, _ = r.Replace(lo, hi, put)
				b = append(append(bytes.Clone(b[:lo]), put...), b[hi:]...)
			case 1:
				r, _ = r.Replace(lo, hi, nil)
				b = append(bytes.Clone(b[:lo]), b[hi:]...)
			case 2:
				first, others, _ := r.Split(lo)
				holdTree(t, first, b[:lo])
				holdTree(t, others, b[lo:])
				r, _ = Join(others, first)
				b = append(bytes.Clone(b[lo:]), b[:lo]...)
			}
			holdTree(t, r, b)
		}
	}
}

// Each length of a row of leaves, joined with each other one.
func TestP9_7TreesOfFewLeaves(t *testing.T) {
	row := func(leaves int) (*Rope, []byte) {
		r, b := &Rope{}, bytes.Repeat([]byte("abc\xe2"), leaves*maxMerged/4)
		for i := range leaves {
			one, _ := New(b[i*maxMerged : (i+1)*maxMerged])
			r, _ = Join(r, one)
			holdTree(t, r, b[:(i+1)*maxMerged])
		}
		return r, b
	}
	for _, i := range []int{0, 1, 2, 3, 5, 8, 13, 21, 40} {
		a, x := row(i)
		for j := range 24 {
			b, y := row(j)
			both, _ := Join(a, b)
			holdTree(t, both, append(bytes.Clone(x), y...))
			both, _ = Join(b, a)
			holdTree(t, both, append(bytes.Clone(y), x...))
		}
	}
}
