package window

import (
	"math/rand"
	"reflect"
	"slices"
	"testing"

	"culet/api"
	"culet/brightness"
	"culet/cell"
	"culet/field"
	"culet/interval"
	"culet/plane"
	"culet/refine"
	"culet/solid"
	"culet/trace"
)

const one = interval.Unit

func iv(lo, hi int) api.Interval { return api.Interval{Lo: lo, Hi: hi} }

func num(s string) api.Num {
	x, _ := field.Parse(s)
	return x
}

func ring(h, v, start, step int, depth string) (l []api.Plane) {
	for i := start; i < 24; i += step {
		p, _ := plane.Of(api.Setting{H: h, V: v, Index: i}, num(depth))
		l = append(l, p)
	}
	return l
}

func prepare(t *testing.T, s api.Solid, index int) trace.Body {
	t.Helper()
	b, e := trace.Prepare(s, iv(index, index))
	if e != api.OK {
		t.Fatal(e)
	}
	return b
}

func brilliant(t *testing.T) trace.Body {
	t.Helper()
	top, _ := plane.Of(api.Setting{V: 1}, num("1/3"))
	s, _ := solid.Of(slices.Concat([]api.Plane{top}, ring(1, 1, 0, 3, "1"), ring(1, 0, 0, 3, "1"), ring(7, -8, 0, 3, "43/5")))
	return prepare(t, s, one*24/10)
}

// roof returns light from straight above, like a mirror.
func roof(t *testing.T) trace.Body {
	t.Helper()
	top, _ := plane.Of(api.Setting{V: 1}, num("1/3"))
	s, _ := solid.Of(slices.Concat([]api.Plane{top}, ring(1, 0, 6, 12, "1"), ring(1, -1, 0, 12, "1")))
	return prepare(t, s, 2*one)
}

func cube(t *testing.T) trace.Body {
	t.Helper()
	s, _ := solid.Block(1)
	return prepare(t, s, 2*one)
}

func maps() []Map {
	r := rand.New(rand.NewSource(1))
	l := []Map{{{0}}, {{2}}, {{1, 2, 2, 3}}, {{2, 2}, {0, 2}}, {{2, 0, 2}, {0, 2, 0}, {2, 0, 2}}, {{2, 2, 0, 2}, {0, 0, 0, 2}}}
	for range 30 {
		m := Map{}
		columns := 1 + r.Intn(16)
		for range 1 + r.Intn(16) {
			row := []int{}
			for range columns {
				row = append(row, []int{0, 1, 2, 2, 3}[r.Intn(5)])
			}
			m = append(m, row)
		}
		l = append(l, m)
	}
	return l
}

func flipped(m Map) Map {
	out := slices.Clone(m)
	slices.Reverse(out)
	return out
}

func transposed(m Map) Map {
	out := Map{}
	for j := range m[0] {
		row := []int{}
		for i := range m {
			row = append(row, m[i][j])
		}
		out = append(out, row)
	}
	return out
}

func TestOf(t *testing.T) { // P35.1, P35.6
	kinds := map[int]int{}
	for _, b := range []trace.Body{brilliant(t), cube(t), roof(t)} {
		for _, g := range []brightness.Grid{{Half: one * 6 / 5, Cone: 9, Steps: 16, Turns: 16}, {Half: one / 2, Cone: 0, Steps: 16, Turns: 1}, {Half: 3, Cone: 0, Steps: 5, Turns: 1}} {
			m, e := Of(b, g, 12)
			if e != api.OK || !Valid(m) || len(m) != g.Steps || len(m[0]) != g.Steps {
				t.Fatalf("P35.1: %v: %v", g, e)
			}
			on, _, _ := brightness.Cells(b, brightness.Grid{Half: g.Half, Cone: 0, Steps: g.Steps, Turns: 1})
			for i, row := range m {
				for j, kind := range row {
					mark := func(k int) int { return -g.Half + 2*g.Half*k/g.Steps }
					x, y := iv(mark(j), mark(j+1)), iv(mark(i), mark(i+1))
					k := slices.IndexFunc(on, func(c cell.Cell) bool { return c.X == x && c.Y == y })
					want := None
					if k >= 0 {
						p, _ := cell.Trace(b, on[k], 12)
						want = p.Kind
						for n := range 4 {
							corner, _ := cell.Corner(on[k], n)
							q, _ := cell.Trace(b, corner, 12)
							if kind != trace.Unknown && q.Kind != kind {
								t.Fatalf("P35.6: %d %d", i, j)
							}
						}
					}
					kinds[kind]++
					if kind != want {
						t.Fatalf("P35.1: %d %d: %d, want %d", i, j, kind, want)
					}
				}
			}
		}
	}
	if kinds[0] == 0 || kinds[1] == 0 || kinds[2] == 0 || kinds[3] == 0 {
		t.Errorf("one-sided test: %v", kinds)
	}
	m, _ := Of(cube(t), brightness.Grid{Half: one, Cone: 0, Steps: 2, Turns: 1}, 5)
	if m, e := Of(cube(t), brightness.Grid{Half: one, Cone: 0, Steps: 2, Turns: 1}, 20); e != api.OK || len(m) != 2 {
		t.Errorf("P35.1: %v", e)
	}
	lines, _ := Draw(m)
	n, _ := Regions(m, trace.Leaks)
	if !slices.Equal(lines, []string{"LL", "LL"}) || n != 1 {
		t.Errorf("P35.5: example: %v", lines)
	}
}

func TestCounts(t *testing.T) { // P35.2
	for i, m := range maps() {
		c, e := Count(m)
		want := map[int]int{}
		for _, row := range m {
			for _, k := range row {
				want[k]++
			}
		}
		if e != api.OK || c != (refine.Count{Returns: want[1], Leaks: want[2], Unknown: want[3]}) || c.Returns+c.Leaks+c.Unknown+want[0] != len(m)*len(m[0]) {
			t.Errorf("P35.2: %d: %v", i, c)
		}
	}
}

func TestRegions(t *testing.T) { // P35.3, P35.4
	for i, m := range maps() {
		for kind := range 4 {
			n, e := Regions(m, kind)
			a, _ := Regions(flipped(m), kind)
			b, _ := Regions(transposed(m), kind)
			count := 0
			for _, row := range m {
				for _, k := range row {
					if k == kind {
						count++
					}
				}
			}
			if e != api.OK || n > count || a != n || b != n || (n > 0) != (count > 0) {
				t.Errorf("P35.4: %d: kind %d: %d %d %d", i, kind, n, a, b)
			}
		}
		l, e := Window(m)
		n, _ := Regions(m, trace.Leaks)
		if (n > 0) != (e == api.OK) || n == 0 && (e != api.ErrNone || l != nil) {
			t.Errorf("P35.3: %d: %v", i, e)
		}
		if e != api.OK {
			continue
		}
		checkWindow(t, m, l)
	}
	if n, _ := Regions(Map{{2, 0, 2}, {0, 2, 0}, {2, 0, 2}}, 2); n != 5 {
		t.Errorf("P35.4: diagonals: %d", n)
	}
	if l, _ := Window(Map{{2, 2, 0, 2}, {0, 0, 0, 2}}); !slices.Equal(l, [][2]int{{0, 0}, {0, 1}}) {
		t.Errorf("P35.3: equally large: %v", l)
	}
	if l, _ := Window(Map{{2, 0, 2}, {2, 0, 2}, {0, 0, 2}}); !slices.Equal(l, [][2]int{{0, 2}, {1, 2}, {2, 2}}) {
		t.Errorf("P35.3: larger: %v", l)
	}
}

func checkWindow(t *testing.T, m Map, l [][2]int) {
	t.Helper()
	if !slices.IsSortedFunc(l, compare) {
		t.Errorf("P35.3: order: %v", l)
	}
	near := func(a, b [2]int) bool {
		d, e := a[0]-b[0], a[1]-b[1]
		return d*d+e*e == 1
	}
	reached := [][2]int{l[0]}
	for k := 0; k < len(reached); k++ {
		for _, s := range l {
			if near(reached[k], s) && !slices.Contains(reached, s) {
				reached = append(reached, s)
			}
		}
	}
	if len(reached) != len(l) {
		t.Errorf("P35.3: not connected: %v", l)
	}
	for i := range m {
		for j := range m[i] {
			s := [2]int{i, j}
			if in := slices.Contains(l, s); in && m[i][j] != trace.Leaks || !in && m[i][j] == trace.Leaks && slices.ContainsFunc(l, func(a [2]int) bool { return near(a, s) }) {
				t.Errorf("P35.3: %v", s)
			}
		}
	}
	for _, r := range regions(m, trace.Leaks) {
		if len(r) > len(l) || len(r) == len(l) && compare(r[0], l[0]) < 0 {
			t.Errorf("P35.3: %v is larger", r)
		}
	}
}

func TestDraw(t *testing.T) { // P35.5
	for i, m := range maps() {
		lines, e := Draw(m)
		if e != api.OK || len(lines) != len(m) {
			t.Fatalf("P35.5: %d: %v", i, e)
		}
		for r, row := range m {
			for c, kind := range row {
				if line := lines[len(m)-1-r]; len(line) != len(row) || line[c] != ".RL?"[kind] {
					t.Errorf("P35.5: %d: %v", i, lines)
				}
			}
		}
	}
}

func TestErrors(t *testing.T) { // P35.1
	wide, tall := make([]int, 17), slices.Repeat(Map{{0}}, 17)
	for i, m := range []Map{nil, {}, {{}}, {nil, nil}, {{0, 1}, {0}}, {{4}}, {{0, -1}}, {wide}, tall} {
		_, e1 := Count(m)
		n, e2 := Regions(m, 9)
		l, e3 := Window(m)
		lines, e4 := Draw(m)
		if Valid(m) || e1 != api.ErrArg || e2 != api.ErrArg || e3 != api.ErrArg || e4 != api.ErrArg || n != 0 || l != nil || lines != nil {
			t.Errorf("P35.1: %d", i)
		}
	}
	if !Valid(Map{wide[:16]}) || !Valid(tall[:16]) {
		t.Error("P35.1: limits")
	}
	for _, kind := range []int{-1, 4} {
		if n, e := Regions(Map{{0}}, kind); n != 0 || e != api.ErrRange {
			t.Errorf("P35.1: %d: %v", kind, e)
		}
	}
	g := brightness.Grid{Half: one, Cone: 0, Steps: 2, Turns: 1}
	for i, c := range []struct {
		b    trace.Body
		g    brightness.Grid
		most int
		e    api.Errno
	}{{trace.Body{}, g, -1, api.ErrArg}, {cube(t), brightness.Grid{}, -1, api.ErrArg}, {cube(t), g, -1, api.ErrRange}, {cube(t), g, 21, api.ErrRange}, {roof(t), brightness.Grid{Half: 60 * one, Cone: 0, Steps: 1, Turns: 1}, 99, api.ErrRange}, {cube(t), brightness.Grid{Half: 60 * one, Cone: 0, Steps: 1, Turns: 1}, -1, api.ErrRange}, {cube(t), brightness.Grid{Half: 60 * one, Cone: 0, Steps: 1, Turns: 1}, 21, api.ErrRange}, {brilliant(t), brightness.Grid{Half: interval.Max, Cone: 0, Steps: 1, Turns: 1}, 0, api.ErrLimit}} {
		if m, e := Of(c.b, c.g, c.most); e != c.e || !reflect.DeepEqual(m, Map(nil)) {
			t.Errorf("P35.1: %d: %v", i, e)
		}
	}
}
