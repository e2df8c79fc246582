package past_test

import (
	"fmt"
	"math"
	"slices"
	"testing"

	"galley/api"
	"galley/past"
)

const least, greatest, most = math.MinInt, math.MaxInt, api.MaxPast

// model is a past as one line of states, from the farthest back to the farthest again, with the words between them and the state's place in it.
type model[T any] struct {
	most   int
	states []T
	words  []string // words[i] leads from states[i] to states[i+1]
	at     int
	open   bool
	begun  T
	word   string
	done   bool
}

func (m *model[T]) now() T { return m.states[m.at] }

// lose leaves nothing behind the state.
func (m *model[T]) lose() {
	m.states = slices.Clone(m.states[:m.at+1])
	m.words = slices.Clone(m.words[:m.at])
}

// more puts a state behind the last one, and goes there; the line loses its first states while it is too long.
func (m *model[T]) more(next T, word string) {
	m.states = append(m.states, next)
	m.words = append(m.words, word)
	for m.at++; m.at > m.most; m.at-- {
		m.states = slices.Clone(m.states[1:])
		m.words = slices.Clone(m.words[1:])
	}
}

func (m *model[T]) do(next T, word string) api.Errno {
	m.lose()
	if m.open {
		m.states[m.at] = next
		m.done = true
		return api.OK
	}
	m.more(next, word)
	return api.OK
}

func (m *model[T]) undo() (T, string, api.Errno) {
	var none T
	switch {
	case m.open:
		return none, "", api.ErrOpen
	case m.at == 0:
		return none, "", api.ErrPast
	}
	m.at--
	return m.states[m.at], m.words[m.at], api.OK
}

func (m *model[T]) redo() (T, string, api.Errno) {
	var none T
	switch {
	case m.open:
		return none, "", api.ErrOpen
	case m.at == len(m.words):
		return none, "", api.ErrPast
	}
	m.at++
	return m.states[m.at], m.words[m.at-1], api.OK
}

func (m *model[T]) begin(word string) api.Errno {
	if m.open {
		return api.ErrOpen
	}
	m.open, m.begun, m.word, m.done = true, m.now(), word, false
	return api.OK
}

func (m *model[T]) end() api.Errno {
	if !m.open {
		return api.ErrOpen
	}
	m.open = false
	if m.done {
		last := m.now()
		m.states[m.at] = m.begun
		m.more(last, m.word)
	}
	return api.OK
}

func (m *model[T]) forget() api.Errno {
	if m.open {
		return api.ErrOpen
	}
	m.states, m.words, m.at = []T{m.now()}, nil, 0
	return api.OK
}

func (m *model[T]) lists() (back, again []string) {
	for i := m.at - 1; i >= 0; i-- {
		back = append(back, m.words[i])
	}
	return back, slices.Clone(m.words[m.at:])
}

// pair is a past and the model of it; each call is done to both, and the answers are held against each other.
type pair[T comparable] struct {
	p    *past.Past[T]
	want *model[T]
	told []string
}

// made is a new past with a model.
func made[T comparable](t testing.TB, first T, room int) *pair[T] {
	t.Helper()
	p, err := past.New(first, room)
	if p == nil || err != api.OK {
		t.Fatalf("New with most %d: nil: %v, %d", room, p == nil, err)
	}
	return &pair[T]{p, &model[T]{most: room, states: []T{first}}, []string{fmt.Sprintf("New(%v, %d)", first, room)}}
}

// script is what was called so far, in a line that isn't too long.
func (x *pair[T]) script() []string {
	if len(x.told) > 60 {
		return append([]string{x.told[0], ".."}, x.told[len(x.told)-60:]...)
	}
	return x.told
}

func (x *pair[T]) tell(call string) { x.told = append(x.told, call) }

func (x *pair[T]) same(t testing.TB, got, want api.Errno) {
	t.Helper()
	if got != want {
		t.Fatalf("%v: %d, want %d", x.script(), got, want)
	}
}

func (x *pair[T]) do(t testing.TB, next T, word string) {
	t.Helper()
	x.tell(fmt.Sprintf("Do(%v, %.20q)", next, word))
	x.same(t, x.p.Do(next, word), x.want.do(next, word))
}

func (x *pair[T]) undo(t testing.TB) api.Errno {
	t.Helper()
	x.tell("Undo")
	s, w, err := x.p.Undo()
	wantS, wantW, wantErr := x.want.undo()
	if s != wantS || w != wantW || err != wantErr {
		t.Fatalf("%v: %v, %.40q, %d, want %v, %.40q, %d", x.script(), s, w, err, wantS, wantW, wantErr)
	}
	return err
}

func (x *pair[T]) redo(t testing.TB) api.Errno {
	t.Helper()
	x.tell("Redo")
	s, w, err := x.p.Redo()
	wantS, wantW, wantErr := x.want.redo()
	if s != wantS || w != wantW || err != wantErr {
		t.Fatalf("%v: %v, %.40q, %d, want %v, %.40q, %d", x.script(), s, w, err, wantS, wantW, wantErr)
	}
	return err
}

func (x *pair[T]) begin(t testing.TB, word string) {
	t.Helper()
	x.tell(fmt.Sprintf("Begin(%.20q)", word))
	x.same(t, x.p.Begin(word), x.want.begin(word))
}

func (x *pair[T]) end(t testing.TB) {
	t.Helper()
	x.tell("End")
	x.same(t, x.p.End(), x.want.end())
}

func (x *pair[T]) forget(t testing.TB) {
	t.Helper()
	x.tell("Forget")
	x.same(t, x.p.Forget(), x.want.forget())
}

// hold holds what can be seen of a past without a step against the model.
func (x *pair[T]) hold(t testing.TB) {
	t.Helper()
	if got, want := x.p.Now(), x.want.now(); got != want {
		t.Fatalf("%v, Now: %v, want %v", x.script(), got, want)
	}
	back, again := x.p.Words()
	wantBack, wantAgain := x.want.lists()
	if !slices.Equal(back, wantBack) || !slices.Equal(again, wantAgain) {
		t.Fatalf("%v, Words: %.200q, %.200q, want %.200q, %.200q", x.script(), back, again, wantBack, wantAgain)
	}
	if len(back)+len(again) > x.want.most {
		t.Fatalf("%v: %d steps back and %d again, with room for %d", x.script(), len(back), len(again), x.want.most)
	}
}

// unwind goes to both ends of a past and to where it was, once a group that is open has been ended: so every state that is kept is seen.
func (x *pair[T]) unwind(t testing.TB) {
	t.Helper()
	if x.want.open {
		x.end(t)
	}
	x.hold(t)
	at := x.want.at
	for x.redo(t) == api.OK {
		x.hold(t)
	}
	for x.undo(t) == api.OK {
		x.hold(t)
	}
	for range at {
		x.redo(t)
	}
	x.hold(t)
}
