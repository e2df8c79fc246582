package seek_test

import (
	"bytes"
	"fmt"
	"math/rand"
	"slices"
	"testing"

	"galley/api"
	"galley/lines"
	"galley/rope"
	"galley/rule"
	"galley/seek"
	"galley/step"
)

// exampleRope is the chapter's rope: encodings and a CR LF lie over the joints of what was put together.
func exampleRope(t testing.TB) *rope.Rope {
	r := made(t, []byte("a\xe2"))
	for _, piece := range []string{"\x82\xac\r", "\n\xf0\x9f", "\x98\x80"} {
		r = join(t, r, made(t, []byte(piece)))
	}
	return r
}

func TestP10_1ToExamples(t *testing.T) {
	r := exampleRope(t)
	for _, x := range []struct {
		from  api.Ruler
		place int
		to    api.Ruler
		mode  api.Mode
		want  int
		err   api.Errno
	}{
		{api.Bytes, 10, api.Units, api.Exact, 6, api.OK},
		{api.Units, 5, api.Bytes, api.Down, 6, api.OK},
		{api.Units, 5, api.Bytes, api.Up, 10, api.OK},
		{api.Units, 5, api.Bytes, api.Exact, 0, api.ErrInside},
		{api.Runes, 2, api.Bytes, api.Exact, 4, api.OK},
		{api.Bytes, 2, api.Runes, api.Down, 1, api.OK},
		{api.Bytes, 2, api.Runes, api.Up, 2, api.OK},
		{api.Bytes, 8, api.Bytes, api.Up, 10, api.OK},
		{api.Units, 5, api.Units, api.Down, 4, api.OK},
		{api.Runes, 5, api.Units, api.Exact, 6, api.OK},
		{api.Runes, 6, api.Units, api.Down, 0, api.ErrRange},
		{api.Units, 7, api.Bytes, api.Up, 0, api.ErrRange},
		{api.Bytes, 11, api.Bytes, api.Down, 0, api.ErrRange},
		{api.Bytes, -1, api.Runes, api.Up, 0, api.ErrRange},
		{0, 1, api.Bytes, api.Down, 0, api.ErrRuler},
		{api.Bytes, 1, 4, api.Down, 0, api.ErrRuler},
		{api.Bytes, 1, api.Bytes, 0, 0, api.ErrRuler},
	} {
		if got, err := seek.To(r, x.from, x.place, x.to, x.mode); got != x.want || err != x.err {
			t.Errorf("To(%d, %d, %d, %d): %d, %d, want %d, %d", x.from, x.place, x.to, x.mode, got, err, x.want, x.err)
		}
	}
}

func TestP10_1WhereExamples(t *testing.T) {
	r := exampleRope(t)
	for _, x := range []struct {
		place int
		want  api.Where
		err   api.Errno
	}{
		{0, api.Where{}, api.OK},
		{3, api.Where{Bytes: 1, Runes: 1, Units: 1, ColBytes: 1, ColRunes: 1, ColUnits: 1}, api.OK},
		{5, api.Where{Bytes: 5, Runes: 3, Units: 3, ColBytes: 5, ColRunes: 3, ColUnits: 3}, api.OK},
		{6, api.Where{Bytes: 6, Runes: 4, Units: 4, Line: 1}, api.OK},
		{9, api.Where{Bytes: 6, Runes: 4, Units: 4, Line: 1}, api.OK},
		{10, api.Where{Bytes: 10, Runes: 5, Units: 6, Line: 1, ColBytes: 4, ColRunes: 1, ColUnits: 2}, api.OK},
		{11, api.Where{}, api.ErrRange},
		{-1, api.Where{}, api.ErrRange},
	} {
		if got, err := seek.Where(r, x.place); got != x.want || err != x.err {
			t.Errorf("Where(%d): %+v, %d, want %+v, %d", x.place, got, err, x.want, x.err)
		}
	}
}

func TestP10_1AtExamples(t *testing.T) {
	r := exampleRope(t)
	for _, x := range []struct {
		line, col int
		u         api.Ruler
		mode      api.Mode
		want      int
		err       api.Errno
	}{
		{1, 2, api.Units, api.Exact, 10, api.OK},
		{1, 1, api.Units, api.Down, 6, api.OK},
		{1, 1, api.Units, api.Up, 10, api.OK},
		{1, 1, api.Units, api.Exact, 0, api.ErrInside},
		{0, 2, api.Runes, api.Exact, 4, api.OK},
		{0, 3, api.Runes, api.Exact, 5, api.OK},
		{0, 4, api.Runes, api.Down, 4, api.OK},
		{0, 4, api.Runes, api.Up, 4, api.OK},
		{0, 4, api.Runes, api.Exact, 0, api.ErrRange},
		{0, 2, api.Bytes, api.Down, 1, api.OK},
		{0, 2, api.Bytes, api.Up, 4, api.OK},
		{1, 99, api.Bytes, api.Up, 10, api.OK},
		{2, 0, api.Bytes, api.Down, 0, api.ErrRange},
		{-1, 0, api.Bytes, api.Down, 0, api.ErrRange},
		{0, -1, api.Bytes, api.Down, 0, api.ErrRange},
		{0, 0, 0, api.Down, 0, api.ErrRuler},
		{0, 0, api.Runes, 4, 0, api.ErrRuler},
	} {
		s := api.Spot{Line: x.line, Col: x.col}
		if got, err := seek.At(r, s, x.u, x.mode); got != x.want || err != x.err {
			t.Errorf("At(%v, %d, %d): %d, %d, want %d, %d", s, x.u, x.mode, got, err, x.want, x.err)
		}
	}
}

func TestP10_1LineFloorStepExamples(t *testing.T) {
	r := exampleRope(t)
	for k, want := range map[int][4]int{0: {0, 4, 6, 0}, 1: {6, 10, 10, 0}, 2: {0, 0, 0, int(api.ErrRange)}, -1: {0, 0, 0, int(api.ErrRange)}} {
		if s, c, n, err := seek.Line(r, k); [4]int{s, c, n, int(err)} != want {
			t.Errorf("Line(%d): %d, %d, %d, %d, want %v", k, s, c, n, err, want)
		}
	}
	for p, want := range map[int]int{0: 0, 1: 1, 2: 1, 3: 1, 4: 4, 5: 5, 6: 6, 7: 6, 8: 6, 9: 6, 10: 10} {
		if got, err := seek.Floor(r, p); got != want || err != api.OK {
			t.Errorf("Floor(%d): %d, %d, want %d", p, got, err, want)
		}
	}
	for _, p := range []int{11, -1} {
		if got, err := seek.Floor(r, p); got != 0 || err != api.ErrRange {
			t.Errorf("Floor(%d): %d, %d", p, got, err)
		}
	}
	for p, want := range map[int]api.Step{0: {Rune: 'a', Width: 1, Whole: true}, 1: {Rune: 0x20AC, Width: 3, Whole: true}, 3: {Rune: 0x20AC, Width: 3, Whole: true}, 5: {Rune: '\n', Width: 1, Whole: true}, 9: {Rune: 0x1F600, Width: 4, Whole: true}} {
		begin := map[int]int{0: 0, 1: 1, 3: 1, 5: 5, 9: 6}[p]
		if at, got, err := seek.Step(r, p); at != begin || got != want || err != api.OK {
			t.Errorf("Step(%d): %d, %+v, %d, want %d, %+v", p, at, got, err, begin, want)
		}
	}
	for _, p := range []int{10, 11, -1} {
		if at, got, err := seek.Step(r, p); at != 0 || got != (api.Step{}) || err != api.ErrRange {
			t.Errorf("Step(%d): %d, %+v, %d", p, at, got, err)
		}
	}
}

// ErrNil comes first, whatever else is handed in, and nothing is told beside it.
func TestP10_1Nil(t *testing.T) {
	someRulers := append(noRulers, rulers...)
	someModes := append(noModes, modes...)
	for _, p := range append(noPlaces, 0, 1, api.MaxText) {
		if w, err := seek.Where(nil, p); w != (api.Where{}) || err != api.ErrNil {
			t.Errorf("Where(nil, %d): %+v, %d", p, w, err)
		}
		if s, c, n, err := seek.Line(nil, p); s != 0 || c != 0 || n != 0 || err != api.ErrNil {
			t.Errorf("Line(nil, %d): %d, %d, %d, %d", p, s, c, n, err)
		}
		if got, err := seek.Floor(nil, p); got != 0 || err != api.ErrNil {
			t.Errorf("Floor(nil, %d): %d, %d", p, got, err)
		}
		if at, s, err := seek.Step(nil, p); at != 0 || s != (api.Step{}) || err != api.ErrNil {
			t.Errorf("Step(nil, %d): %d, %+v, %d", p, at, s, err)
		}
		for _, u := range someRulers {
			for _, m := range someModes {
				for _, v := range someRulers {
					if got, err := seek.To(nil, u, p, v, m); got != 0 || err != api.ErrNil {
						t.Fatalf("To(nil, %d, %d, %d, %d): %d, %d", u, p, v, m, got, err)
					}
				}
				for _, s := range []api.Spot{{Line: p}, {Col: p}, {Line: p, Col: p}} {
					if got, err := seek.At(nil, s, u, m); got != 0 || err != api.ErrNil {
						t.Fatalf("At(nil, %v, %d, %d): %d, %d", s, u, m, got, err)
					}
				}
			}
		}
	}
}

// A wrong ruler or mode goes ahead of a wrong place, line or column.
func TestP10_1ErrorsInTheirOrder(t *testing.T) {
	for _, r := range []*rope.Rope{made(t, nil), exampleRope(t), made(t, steps(9000, 1))} {
		m := modelOf(textOf(t, r))
		places := append(outside(len(m.b)), 0, 1, len(m.b))
		for _, p := range places {
			for _, u := range noRulers {
				for _, mode := range append(noModes, modes...) {
					m.holdTo(t, r, u, p, api.Bytes, mode)
					m.holdTo(t, r, api.Units, p, u, mode)
					m.holdTo(t, r, u, p, u, mode)
					m.holdAt(t, r, api.Spot{Line: p}, u, mode)
					m.holdAt(t, r, api.Spot{Col: p}, u, mode)
				}
			}
			for _, mode := range noModes {
				for _, u := range rulers {
					m.holdTo(t, r, u, p, api.Runes, mode)
					m.holdAt(t, r, api.Spot{Line: p, Col: p}, u, mode)
					m.holdAt(t, r, api.Spot{Col: p}, u, mode)
				}
			}
		}
		// No line, and a column that an inside place would have.
		for _, u := range rulers {
			m.holdAt(t, r, api.Spot{Line: len(m.rows), Col: 1}, u, api.Exact)
			m.holdAt(t, r, api.Spot{Line: -1, Col: 1}, u, api.Exact)
			m.holdAt(t, r, api.Spot{Line: 0, Col: -1}, u, api.Exact)
			m.holdAt(t, r, api.Spot{Line: -1, Col: greatest}, u, api.Down)
			m.holdAt(t, r, api.Spot{Line: len(m.rows), Col: greatest}, u, api.Up)
		}
	}
}

// asBytes: a rope answers what layers 2, 6 and 7 answer of its bytes, whatever is handed in.
func asBytes(t *testing.T, r *rope.Rope, b []byte) {
	t.Helper()
	for p := -2; p <= len(b)+2; p++ {
		w, wErr := lines.Where(b, p)
		if got, err := seek.Where(r, p); got != w || err != wErr {
			t.Fatalf("% x: Where(%d): %+v, %d, want %+v, %d", b, p, got, err, w, wErr)
		}
		f, fErr := step.Floor(b, p)
		if got, err := seek.Floor(r, p); got != f || err != fErr {
			t.Fatalf("% x: Floor(%d): %d, %d, want %d, %d", b, p, got, err, f, fErr)
		}
		s, _ := step.At(b, f)
		if p == len(b) {
			f, s, fErr = 0, api.Step{}, api.ErrRange
		}
		if fErr != api.OK {
			s = api.Step{}
		}
		if at, got, err := seek.Step(r, p); at != f || got != s || err != fErr {
			t.Fatalf("% x: Step(%d): %d, %+v, %d, want %d, %+v, %d", b, p, at, got, err, f, s, fErr)
		}
		for from := api.Ruler(0); from <= 4; from++ {
			for mode := api.Mode(0); mode <= 4; mode++ {
				for to := api.Ruler(0); to <= 4; to++ {
					want, wantErr := rule.To(b, from, p, to, mode)
					if got, err := seek.To(r, from, p, to, mode); got != want || err != wantErr {
						t.Fatalf("% x: To(%d, %d, %d, %d): %d, %d, want %d, %d", b, from, p, to, mode, got, err, want, wantErr)
					}
				}
			}
		}
	}
	asLines(t, r, b)
}

func asLines(t *testing.T, r *rope.Rope, b []byte) {
	t.Helper()
	for k := -1; k <= lines.Count(b); k++ {
		start, content, next, wantErr := lines.Line(b, k)
		if s, c, n, err := seek.Line(r, k); s != start || c != content || n != next || err != wantErr {
			t.Fatalf("% x: Line(%d): %d, %d, %d, %d", b, k, s, c, n, err)
		}
		for u := api.Ruler(0); u <= 4; u++ {
			for mode := api.Mode(0); mode <= 4; mode++ {
				for col := -1; col <= next-start+2; col++ {
					spot := api.Spot{Line: k, Col: col}
					want, wantErr := lines.At(b, spot, u, mode)
					if got, err := seek.At(r, spot, u, mode); got != want || err != wantErr {
						t.Fatalf("% x: At(%v, %d, %d): %d, %d, want %d, %d", b, spot, u, mode, got, err, want, wantErr)
					}
				}
			}
		}
	}
}

func TestP10_1EveryShortText(t *testing.T) {
	t.Parallel()
	for n := range 4 {
		texts(n, leastBytes, func(b []byte) { asBytes(t, made(t, b), b) })
	}
}

func TestP10_1EveryTwoPieces(t *testing.T) {
	t.Parallel()
	for _, one := range pieces {
		for _, other := range pieces {
			b := []byte(one + other)
			asBytes(t, join(t, made(t, []byte(one)), made(t, []byte(other))), b)
		}
	}
}

// Texts of four and five bytes, with the places at which they could be told wrong.
func TestP10_1ShortTexts(t *testing.T) {
	t.Parallel()
	fewTexts(func(b []byte) { modelOf(b).holdAll(t, made(t, b), manyPlaces) })
	texts(5, []byte{0x0A, 0x0D, 0x90, 0xE2, 0xF0}, func(b []byte) { modelOf(b).holdAll(t, made(t, b), manyPlaces) })
}

func TestP10_1LongTexts(t *testing.T) {
	t.Parallel()
	longTexts(func(name string, b []byte) {
		t.Run(name, func(t *testing.T) {
			t.Parallel()
			modelOf(b).holdAll(t, made(t, b), fewPlaces)
		})
	})
}

// lineTexts are texts whose lines are of unlike lengths.
func lineTexts() map[string][]byte {
	long := bytes.Repeat([]byte("x\u20ac\U0001F600\xe2\x82"), 1200)
	all := map[string][]byte{
		"no line end":                     long,
		"nothing behind the last":         slices.Concat(long, []byte("\n")),
		"nothing behind the last, CR LF":  slices.Concat(long, []byte("\r\n")),
		"nothing behind the last, CR":     slices.Concat(long, []byte("\r")),
		"long lines":                      slices.Concat(long, []byte("\r\n"), long, []byte("\n"), long),
		"a long one among lines of none":  slices.Concat(bytes.Repeat([]byte("\n"), 700), long, bytes.Repeat([]byte("\r"), 700)),
		"LF alone":                        bytes.Repeat([]byte("\n"), 5000),
		"CR alone":                        bytes.Repeat([]byte("\r"), 5000),
		"CR LF alone":                     bytes.Repeat([]byte("\r\n"), 2600),
		"LF CR alone":                     bytes.Repeat([]byte("\n\r"), 2600),
		"bad bytes in lines":              bytes.Repeat([]byte("\xe2\x82\n\xf0\x9f\x98\r\x80\x80\r\n"), 500),
		"an encoding that isn't finished": slices.Concat(bytes.Repeat([]byte("x"), 5000), []byte("\xf0\x9f\x98")),
	}
	for n := 4090; n < 4100; n++ {
		all[fmt.Sprint("CR LF behind ", n)] = slices.Concat(bytes.Repeat([]byte("y"), n), []byte("\r\n\U0001F600"), bytes.Repeat([]byte("y"), n), []byte("\r"))
	}
	return all
}

func TestP10_1Lines(t *testing.T) {
	t.Parallel()
	for name, b := range lineTexts() {
		t.Run(name, func(t *testing.T) {
			t.Parallel()
			m := modelOf(b)
			m.holdAll(t, made(t, b), fewPlaces)
			m.holdLines(t, ways[5].make(t, b), fewPlaces)
			for _, k := range manyPlaces(len(m.rows) - 1) {
				m.holdLine(t, made(t, b), k)
			}
		})
	}
}

// Every place of a text of several leaves, by each ruler and with each mode, and every line.
func TestP10_1EveryPlace(t *testing.T) {
	t.Parallel()
	b := slices.Concat(steps(4093, 1), bytes.Repeat([]byte("\U0001F600\r\n"), 60), mixed(1500, 2, leastBytes))
	m := modelOf(b)
	for _, w := range []way{ways[0], ways[5]} {
		t.Run(w.name, func(t *testing.T) {
			t.Parallel()
			r := w.make(t, b)
			for p := range len(b) + 1 {
				m.holdWhere(t, r, p)
				m.holdFloor(t, r, p)
				m.holdStep(t, r, p)
			}
			for _, u := range rulers {
				for p := range m.size(u) + 1 {
					m.holdTo(t, r, u, p, rulers[p%3], modes[p/3%3])
					m.holdTo(t, r, u, p, api.Bytes, api.Exact)
				}
			}
			for k := range m.rows {
				m.holdLine(t, r, k)
				m.holdAt(t, r, api.Spot{Line: k, Col: k % 5}, rulers[k%3], modes[k/3%3])
			}
		})
	}
}

// doubled is a text put behind itself so often: a great one that has few nodes.
func doubled(t testing.TB, b []byte, times int) *rope.Rope {
	t.Helper()
	r := made(t, b)
	for range times {
		r = join(t, r, r)
	}
	return r
}

// holdCopies: of a text that stands behind itself n times, and whose ends meet in no step and no line end, all is the sum of a few whole ones and of what one says.
func holdCopies(t *testing.T, r *rope.Rope, m *model, n int) {
	t.Helper()
	perLines := len(m.rows) - 1
	for _, i := range []int{0, 1, n / 3, n / 2, n - 1} {
		for p := range len(m.b) {
			want, _ := m.where(p)
			want.Bytes += i * m.size(api.Bytes)
			want.Runes += i * m.size(api.Runes)
			want.Units += i * m.size(api.Units)
			want.Line += i * perLines
			if got, err := seek.Where(r, i*len(m.b)+p); got != want || err != api.OK {
				t.Fatalf("copy %d: Where(%d): %+v, %d, want %+v", i, p, got, err, want)
			}
		}
		for _, u := range rulers {
			for p := range m.size(u) {
				down, _ := m.to(u, p, api.Bytes, api.Down)
				if got, err := seek.To(r, u, i*m.size(u)+p, api.Bytes, api.Down); got != i*len(m.b)+down || err != api.OK {
					t.Fatalf("copy %d: To(%d, %d): %d, %d, want %d", i, u, p, got, err, down)
				}
			}
		}
		for k := range perLines {
			l := m.rows[k]
			at := i * len(m.b)
			if s, c, next, err := seek.Line(r, i*perLines+k); s != at+l.start || c != at+l.content || next != at+l.next || err != api.OK {
				t.Fatalf("copy %d: Line(%d): %d, %d, %d, %d", i, k, s, c, next, err)
			}
			want, _ := m.at(api.Spot{Line: k, Col: 1}, api.Units, api.Up)
			if got, err := seek.At(r, api.Spot{Line: i*perLines + k, Col: 1}, api.Units, api.Up); got != at+want || err != api.OK {
				t.Fatalf("copy %d: At(%d): %d, %d, want %d", i, k, got, err, want)
			}
		}
	}
}

func TestP10_1GreatTexts(t *testing.T) {
	t.Parallel()
	b := []byte("a\U0001F600\r\n\xe2\x82x\n\u20ac\xff\r\r\n\n")
	m := modelOf(b)
	times := 0
	for len(b)<<(times+1) <= api.MaxText {
		times++
	}
	r := doubled(t, b, times)
	holdCopies(t, r, m, 1<<times)
	end := len(b) << times
	last := (len(m.rows) - 1) << times
	if s, c, n, err := seek.Line(r, last); s != end || c != end || n != end || err != api.OK {
		t.Errorf("the last line: %d, %d, %d, %d", s, c, n, err)
	}
	if _, _, _, err := seek.Line(r, last+1); err != api.ErrRange {
		t.Errorf("behind the last line: %d", err)
	}
	if got, err := seek.To(r, api.Bytes, end, api.Units, api.Exact); got != m.size(api.Units)<<times || err != api.OK {
		t.Errorf("the end by units: %d, %d", got, err)
	}
	if _, err := seek.To(r, api.Units, m.size(api.Units)<<times+1, api.Bytes, api.Down); err != api.ErrRange {
		t.Errorf("behind the end by units: %d", err)
	}
}

// One line of as many bytes as a text may have.
func TestP10_1OneGreatLine(t *testing.T) {
	t.Parallel()
	r := doubled(t, []byte("\U0001F600"), 26)
	for _, i := range []int{0, 1, 5, 1<<25 - 1, 1 << 25, 1<<26 - 1} {
		want := api.Where{Bytes: 4 * i, Runes: i, Units: 2 * i, ColBytes: 4 * i, ColRunes: i, ColUnits: 2 * i}
		for p := 4 * i; p < 4*i+4; p++ {
			if got, err := seek.Where(r, p); got != want || err != api.OK {
				t.Fatalf("Where(%d): %+v, %d", p, got, err)
			}
			if at, s, err := seek.Step(r, p); at != 4*i || s.Rune != 0x1F600 || err != api.OK {
				t.Fatalf("Step(%d): %d, %+v, %d", p, at, s, err)
			}
		}
		for mode, want := range map[api.Mode]int{api.Down: 4 * i, api.Up: 4*i + 4, api.Exact: 0} {
			got, err := seek.At(r, api.Spot{Col: 2*i + 1}, api.Units, mode)
			if got != want || (err == api.ErrInside) != (mode == api.Exact) {
				t.Fatalf("At(%d, %d): %d, %d", 2*i+1, mode, got, err)
			}
		}
	}
	if got, err := seek.At(r, api.Spot{Col: greatest}, api.Runes, api.Up); got != api.MaxText || err != api.OK {
		t.Errorf("At far behind: %d, %d", got, err)
	}
}

// As many lines as a text may have; and CR LF of which each lies over a joint.
func TestP10_1GreatManyLines(t *testing.T) {
	t.Parallel()
	r := doubled(t, []byte("\r"), 28)
	for _, k := range []int{0, 1, 1 << 27, 1<<28 - 1} {
		if s, c, n, err := seek.Line(r, k); s != k || c != k || n != k+1 || err != api.OK {
			t.Fatalf("CR: Line(%d): %d, %d, %d, %d", k, s, c, n, err)
		}
		if got, err := seek.Where(r, k); got != (api.Where{Bytes: k, Runes: k, Units: k, Line: k}) || err != api.OK {
			t.Fatalf("CR: Where(%d): %+v, %d", k, got, err)
		}
	}
	r = doubled(t, []byte("\n\r"), 27)
	for _, k := range []int{1, 2, 1 << 12, 1<<26 + 1, 1<<27 - 1} {
		at := 2*k - 1
		if s, c, n, err := seek.Line(r, k); s != at || c != at || n != at+2 || err != api.OK {
			t.Fatalf("LF CR: Line(%d): %d, %d, %d, %d", k, s, c, n, err)
		}
		want := api.Where{Bytes: at + 1, Runes: at + 1, Units: at + 1, Line: k, ColBytes: 1, ColRunes: 1, ColUnits: 1}
		if got, err := seek.Where(r, at+1); got != want || err != api.OK {
			t.Fatalf("LF CR: Where(%d): %+v, %d", at+1, got, err)
		}
	}
}

// A rope's answers hang on its bytes alone: whatever calls it was made by.
func TestP10_2Ways(t *testing.T) {
	t.Parallel()
	few := [][]byte{nil, []byte("a\xe2\x82\xac\r\n\xf0\x9f\x98\x80"), []byte("\r\n\r\n\n\r\r"), []byte("\xf0\x9f\x98\xf0\x9f\x98\x80\x80")}
	long := [][]byte{steps(1500, 3), steps(4097, 4), mixed(5000, 5, leastBytes), mixed(4200, 6, badBytes), bytes.Repeat([]byte("\U0001F600\r\n"), 700), bytes.Repeat([]byte("\r\n"), 2100), bytes.Repeat([]byte("\u20ac"), 1400)}
	for _, w := range ways {
		t.Run(w.name, func(t *testing.T) {
			t.Parallel()
			for _, b := range few {
				modelOf(b).holdAll(t, w.make(t, b), manyPlaces)
			}
			for _, b := range long {
				modelOf(b).holdAll(t, w.make(t, b), fewPlaces)
			}
		})
	}
}

// Two ropes that are joined at each place of an encoding or a line end, long enough to lie in leaves of their own.
func TestP10_2Joints(t *testing.T) {
	t.Parallel()
	side := bytes.Repeat([]byte("z"), 1100)
	for _, piece := range []string{"\u00e9", "\u20ac", "\U0001F600", "\r\n", "\r\r\n\n", "\xe2\x82", "\xf0\x9f\x98\xf0\x9f\x98\x80", "\r\U0001F600\n", "\u20ac\r\n\u20ac"} {
		b := slices.Concat(side, []byte(piece), side)
		m := modelOf(b)
		for cut := range len(piece) + 1 {
			at := len(side) + cut
			r := join(t, made(t, b[:at]), made(t, b[at:]))
			for p := len(side) - 5; p <= len(side)+len(piece)+5; p++ {
				m.holdWhere(t, r, p)
				m.holdFloor(t, r, p)
				m.holdStep(t, r, p)
				for _, u := range rulers {
					for _, mode := range modes {
						m.holdTo(t, r, u, p, api.Bytes, mode)
						m.holdTo(t, r, u, p, api.Units, mode)
						m.holdAt(t, r, api.Spot{Col: p}, u, mode)
						m.holdAt(t, r, api.Spot{Line: 1, Col: p - len(side)}, u, mode)
					}
				}
			}
			for k := range len(m.rows) + 1 {
				m.holdLine(t, r, k)
			}
		}
	}
}

// Ropes that come out of long rows of calls.
func TestP10_2Scripts(t *testing.T) {
	t.Parallel()
	for seed := range int64(4) {
		rng := rand.New(rand.NewSource(seed))
		var s scripts
		for _, b := range [][]byte{nil, []byte("\xf0\x9f\x98\x80\r\n"), steps(3000, seed), bytes.Repeat([]byte("\r\n\u20ac"), 900)} {
			s.add(made(t, b), b)
		}
		for range 400 {
			s.call(t, rng, 12000)
		}
		for i := len(s.ropes) - 1; i >= 0; i -= 1 + rng.Intn(20) {
			modelOf(s.texts[i]).holdAll(t, s.ropes[i], somePlaces(rng))
		}
	}
}

// somePlaces are few places by chance, with both ends.
func somePlaces(rng *rand.Rand) func(n int) []int {
	return func(n int) []int {
		places := []int{0, n}
		for range 6 {
			places = append(places, rng.Intn(n+1))
		}
		return places
	}
}

// Floor, Step, Where and To agree with one another.
func TestP10_3CallsAgree(t *testing.T) {
	t.Parallel()
	hold := func(b []byte, some func(int) []int) {
		r := made(t, b)
		for _, p := range some(len(b)) {
			edge, err := seek.Floor(r, p)
			if again, e := seek.Floor(r, edge); again != edge || err != api.OK || e != api.OK {
				t.Fatalf("%s: Floor(%d) is %d, and of that %d; %d, %d", short(b), p, edge, again, err, e)
			}
			if rule.Edge(b, api.Bytes, p) != (edge == p) {
				t.Fatalf("%s: Floor(%d) is %d", short(b), p, edge)
			}
			w, err := seek.Where(r, p)
			if err != api.OK || w.Bytes != edge {
				t.Fatalf("%s: Where(%d) is %+v, %d, Floor %d", short(b), p, w, err, edge)
			}
			runes, _ := seek.To(r, api.Bytes, p, api.Runes, api.Down)
			units, _ := seek.To(r, api.Bytes, p, api.Units, api.Down)
			if w.Runes != runes || w.Units != units {
				t.Fatalf("%s: Where(%d) is %+v, To says %d, %d", short(b), p, w, runes, units)
			}
			if p == len(b) {
				continue
			}
			begin, s, err := seek.Step(r, p)
			want, _ := step.At(b, edge)
			if begin != edge || s != want || err != api.OK {
				t.Fatalf("%s: Step(%d) is %d, %+v, %d, Floor %d", short(b), p, begin, s, err, edge)
			}
		}
	}
	fewTexts(func(b []byte) { hold(b, manyPlaces) })
	longTexts(func(_ string, b []byte) { hold(b, fewPlaces) })
}

// There and back at an edge is the edge, by all rulers and by lines.
func TestP3ThereAndBack(t *testing.T) {
	t.Parallel()
	for _, b := range [][]byte{[]byte("a\xe2\x82\xac\r\n\xf0\x9f\x98\x80"), steps(5000, 8), bytes.Repeat([]byte("\U0001F600\r\n"), 800)} {
		m := modelOf(b)
		r := ways[5].make(t, b)
		for i := 0; i < len(m.edges); i += 1 + i%7 {
			e := m.edges[i]
			for _, u := range rulers {
				p, err := seek.To(r, api.Bytes, e.bytes, u, api.Exact)
				back, e2 := seek.To(r, u, p, api.Bytes, api.Exact)
				if p != e.by(u) || back != e.bytes || err != api.OK || e2 != api.OK {
					t.Fatalf("%s: %d by %d is %d, and back %d", short(b), e.bytes, u, p, back)
				}
				w, _ := seek.Where(r, e.bytes)
				col := map[api.Ruler]int{api.Bytes: w.ColBytes, api.Runes: w.ColRunes, api.Units: w.ColUnits}[u]
				if at, err := seek.At(r, api.Spot{Line: w.Line, Col: col}, u, api.Exact); at != e.bytes || err != api.OK {
					t.Fatalf("%s: At of Where(%d) by %d is %d, %d", short(b), e.bytes, u, at, err)
				}
			}
		}
	}
}

// A rope is what it was behind every call, those with errors too, and answers the same again.
func TestP10_4RopesStay(t *testing.T) {
	t.Parallel()
	for _, b := range [][]byte{nil, []byte("a\xe2\x82\xac\r\n\xf0\x9f\x98\x80"), steps(6000, 9), bytes.Repeat([]byte("\r\n"), 2100)} {
		for _, w := range []way{ways[0], ways[5], ways[7]} {
			r := w.make(t, b)
			first, others := split(t, r, len(b)/2)
			depth, measure := r.Depth(), r.Weld()
			m := modelOf(b)
			for range 2 {
				m.holdAll(t, r, fewPlaces)
				if r.Depth() != depth || r.Weld() != measure || !bytes.Equal(textOf(t, r), b) {
					t.Fatalf("%s, %s: the rope was changed", w.name, short(b))
				}
			}
			if !bytes.Equal(textOf(t, first), b[:len(b)/2]) || !bytes.Equal(textOf(t, others), b[len(b)/2:]) {
				t.Fatalf("%s, %s: what was made of the rope was changed", w.name, short(b))
			}
		}
	}
}
