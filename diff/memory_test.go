package diff_test

import (
	"bytes"
	"slices"
	"sync"
	"testing"

	"galley/api"
	"galley/diff"
)

// spare is a list with room behind it, filled with what must stay, and what would change the answer, if it were read.
func spare[T any](list []T, fill ...T) []T {
	all := append(slices.Clone(list), fill...)
	return all[:len(list)]
}

// full is a list with its spare room.
func full[T any](list []T) []T { return list[:cap(list)] }

func wipe[T any](list []T, fill T) {
	for i := range full(list) {
		full(list)[i] = fill
	}
}

var wiped = api.Op{Kind: api.Put, N: 9, Text: "wiped"}

// pairs are texts that are handed in.
var pairs = [][2]string{
	{"", ""}, {"", "abc"}, {"abc", ""}, {"abc", "abc"}, {"kitten", "sitting"}, {"a\nb\nc", "a\nc"}, {"a\r\nb", "a\nb\r"}, {"\xe2\x82", "\xe2\x82\xac"}, {"a\u20ac\xffb\n", "\u20aca\ufffdb\r"}, {"\xe2", "\xe2"}, {"a\r", "a\r"},
}

// Bytes that are handed in stay as they are, spare room too, aren't read beyond their end, and aren't kept; deltas that are answered are new memory each time, spare room too.
func TestR6LeastAndLines(t *testing.T) {
	for name, call := range map[string]func(a, b []byte) (api.Delta, api.Errno){"Least": diff.Least, "Lines": diff.Lines} {
		for _, p := range pairs {
			want, _ := call([]byte(p[0]), []byte(p[1]))
			want = slices.Clone(want)
			a, b := spare([]byte(p[0]), []byte("\x82\xac\nz")...), spare([]byte(p[1]), []byte("\n\xacz")...)
			wasA, wasB := slices.Clone(full(a)), slices.Clone(full(b))
			first, _ := call(a, b)
			second, _ := call(a, b)
			if !slices.Equal(first, want) || !slices.Equal(second, want) {
				t.Errorf("%s(%+q): %s and%s, want%s", name, p, told(first), told(second), told(want))
			}
			wipe(first, wiped)
			if !bytes.Equal(full(a), wasA) || !bytes.Equal(full(b), wasB) {
				t.Errorf("%s(%+q): what was handed in became %x, %x", name, p, full(a), full(b))
			}
			wipe(a, 'w')
			wipe(b, 'w')
			if !slices.Equal(second, want) {
				t.Errorf("%s(%+q): it became%s, want%s", name, p, told(second), told(want))
			}
			if third, _ := call([]byte(p[0]), []byte(p[1])); !slices.Equal(third, want) {
				t.Errorf("%s(%+q): then%s, want%s", name, p, told(third), told(want))
			}
		}
	}
}

// One list handed in twice, and two that share memory.
func TestR6TextsThatShare(t *testing.T) {
	whole := []byte("a\n\u20acb\na\n")
	was := slices.Clone(whole)
	for lo := range len(whole) + 1 {
		for hi := lo; hi <= len(whole); hi++ {
			holdShared(t, whole, whole[lo:hi])
			holdShared(t, whole[:hi], whole[lo:])
			holdShared(t, whole[lo:hi], whole[lo:hi])
		}
	}
	if !bytes.Equal(whole, was) {
		t.Errorf("it became %x", whole)
	}
}

func holdShared(t *testing.T, a, b []byte) {
	t.Helper()
	for _, call := range []func(a, b []byte) (api.Delta, api.Errno){diff.Least, diff.Lines} {
		got, _ := call(a, b)
		if want, _ := call(bytes.Clone(a), bytes.Clone(b)); !slices.Equal(got, want) {
			t.Fatalf("%+q, %+q:%s, want%s", a, b, told(got), told(want))
		}
	}
}

func TestR6DistanceAndCost(t *testing.T) {
	for _, p := range pairs {
		want, _ := diff.Distance([]byte(p[0]), []byte(p[1]))
		a, b := spare([]byte(p[0]), []byte("\x82\xac\nz")...), spare([]byte(p[1]), []byte("\xac\nz")...)
		wasA, wasB := slices.Clone(full(a)), slices.Clone(full(b))
		if got, err := diff.Distance(a, b); got != want || err != api.OK {
			t.Errorf("Distance(%+q): %d, %d, want %d", p, got, err, want)
		}
		least, _ := diff.Least([]byte(p[0]), []byte(p[1]))
		d := spare(least, wiped, wiped, wiped)
		wasD := slices.Clone(full(d))
		if got, err := diff.Cost(a, d); got != want || err != api.OK {
			t.Errorf("Cost(%+q): %d, %d, want %d", p, got, err, want)
		}
		if !bytes.Equal(full(a), wasA) || !bytes.Equal(full(b), wasB) || !slices.Equal(full(d), wasD) {
			t.Errorf("%+q: what was handed in became %x, %x,%s", p, full(a), full(b), told(full(d)))
		}
	}
}

// What is answered depends on what is handed in alone: again, in another order, and several at one time.
func TestR9(t *testing.T) {
	calls := map[string]func(a, b []byte) (api.Delta, api.Errno){"Least": diff.Least, "Lines": diff.Lines}
	for name, call := range calls {
		var wants []api.Delta
		for _, p := range pairs {
			d, _ := call([]byte(p[0]), []byte(p[1]))
			wants = append(wants, d)
		}
		var all sync.WaitGroup
		for range 8 {
			all.Go(func() {
				for i := len(pairs) - 1; i >= 0; i-- {
					a, b := []byte(pairs[i][0]), []byte(pairs[i][1])
					if d, err := call(a, b); !slices.Equal(d, wants[i]) || err != api.OK {
						t.Errorf("%s(%+q):%s, %d, want%s", name, pairs[i], told(d), err, told(wants[i]))
					}
				}
			})
		}
		all.Wait()
	}
}
