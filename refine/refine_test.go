package refine

import (
	"math/rand"
	"reflect"
	"slices"
	"testing"

	"culet/api"
	"culet/cell"
	"culet/field"
	"culet/interval"
	"culet/plane"
	"culet/solid"
	"culet/trace"
)

const one = interval.Unit

func iv(lo, hi int) api.Interval { return api.Interval{Lo: lo, Hi: hi} }

func num(s string) api.Num {
	x, _ := field.Parse(s)
	return x
}

func ring(h, v, start, step int, depth string) (l []api.Plane) {
	for i := start; i < 24; i += step {
		p, _ := plane.Of(api.Setting{H: h, V: v, Index: i}, num(depth))
		l = append(l, p)
	}
	return l
}

func brilliant(t *testing.T) trace.Body {
	t.Helper()
	top, _ := plane.Of(api.Setting{V: 1}, num("1/3"))
	s, e := solid.Of(slices.Concat([]api.Plane{top}, ring(1, 1, 0, 3, "1"), ring(1, 0, 0, 3, "1"), ring(6, -5, 0, 3, "5")))
	if e != api.OK {
		t.Fatal(e)
	}
	b, e := trace.Prepare(s, iv(one*17/10, one*17/10))
	if e != api.OK {
		t.Fatal(e)
	}
	return b
}

func cube(t *testing.T) trace.Body {
	t.Helper()
	s, _ := solid.Block(1)
	b, e := trace.Prepare(s, iv(2*one, 2*one))
	if e != api.OK {
		t.Fatal(e)
	}
	return b
}

// cells returns cells on the table.
func cells() []cell.Cell {
	r := rand.New(rand.NewSource(1))
	l := []cell.Cell{}
	for i := range 24 {
		w := []int{0, 100, one / 50, one / 6}[i%4]
		x, y, u, v := r.Intn(one/2)-one/4, r.Intn(one/2)-one/4, r.Intn(one/3)-one/6, r.Intn(one/3)-one/6
		l = append(l, cell.Cell{Face: 0, X: iv(x, x+w), Y: iv(y, y+w/2), U: iv(u, u+w/3), V: iv(v, v+w/5)})
	}
	return append(l, cell.Cell{Face: 0, X: iv(0, 3), Y: iv(0, 1), U: iv(0, 0), V: iv(0, 0)})
}

func TestSplit(t *testing.T) { // P33.1, P33.2
	for _, c := range []struct {
		c    cell.Cell
		axis int
		e    api.Errno
	}{
		{cell.Cell{X: iv(0, 2)}, 0, api.OK}, {cell.Cell{X: iv(0, 2), Y: iv(5, 7)}, 0, api.OK}, {cell.Cell{X: iv(0, 2), Y: iv(5, 8)}, 1, api.OK}, {cell.Cell{U: iv(-9, 0), V: iv(0, 9)}, 2, api.OK}, {cell.Cell{X: iv(0, 8), V: iv(0, 9)}, 3, api.OK}, {cell.Cell{X: iv(0, 1)}, 0, api.ErrNone}, {cell.Cell{}, 0, api.ErrNone}, {cell.Cell{V: iv(1, 0)}, 0, api.ErrArg}, {cell.Cell{X: iv(0, 9), Y: iv(1, 0)}, 0, api.ErrArg},
	} {
		axis, e := Axis(c.c)
		a, b, e2 := Split(c.c)
		if axis != c.axis || e != c.e || e2 != c.e {
			t.Errorf("P33.1: %v: %d %v", c.c, axis, e)
		}
		if e != api.OK {
			if a != (cell.Cell{}) || b != (cell.Cell{}) {
				t.Errorf("P33.1: %v", c.c)
			}
			continue
		}
		l, m, n := intervals(c.c), intervals(a), intervals(b)
		lower, upper, _ := interval.Split(l[axis])
		for i := range l {
			if i == axis && (m[i] != lower || n[i] != upper) || i != axis && (m[i] != l[i] || n[i] != l[i]) {
				t.Errorf("P33.2: %v: %v %v", c.c, a, b)
			}
		}
		if !cell.Inside(a, c.c) || !cell.Inside(b, c.c) {
			t.Errorf("P33.2: %v", c.c)
		}
	}
}

func TestLeaves(t *testing.T) { // P33.1, P33.2, P33.4
	kinds := Count{}
	for _, b := range []trace.Body{brilliant(t), cube(t)} {
		for i, c := range cells() {
			if len(b.Normals) == 6 {
				c.Face = 4
			}
			for _, depth := range []int{0, 1, 4, 7} {
				l, e := Leaves(b, c, depth, 6)
				if e != api.OK || len(l) < 1 || len(l) > 1<<depth {
					t.Fatalf("P33.2: %d: %v", i, e)
				}
				if !reflect.DeepEqual(l, plain(b, c, depth, 6)) {
					t.Fatalf("P33.1: %d", i)
				}
				n := Counts(l)
				kinds.Returns += n.Returns
				kinds.Leaks += n.Leaks
				kinds.Unknown += n.Unknown
				if n.Returns+n.Leaks+n.Unknown != len(l) {
					t.Fatalf("P33.1: %d: %v", i, n)
				}
				for _, leaf := range l {
					if !cell.Inside(leaf.Cell, c) {
						t.Fatalf("P33.2: %d", i)
					}
					corner, _ := cell.Corner(leaf.Cell, (i*7+depth)%16)
					if p, e := cell.Trace(b, corner, 6); e != api.OK || !trace.Inside(p, leaf.Path) {
						t.Fatalf("P33.4: %d", i)
					}
				}
			}
		}
	}
	if kinds.Returns < 9 || kinds.Leaks < 9 || kinds.Unknown < 9 {
		t.Errorf("one-sided test: %v", kinds)
	}
	if c := Counts([]Leaf{{}, {Path: trace.Path{Kind: 1}}, {Path: trace.Path{Kind: 9}}, {Path: trace.Path{Kind: 3}}}); c != (Count{1, 0, 1}) {
		t.Errorf("P33.1: %v", c)
	}
}

// plain lists the leaves by the definition.
func plain(b trace.Body, c cell.Cell, depth, most int) []Leaf {
	p, _ := cell.Trace(b, c, most)
	x, y, e := Split(c)
	if p.Kind != trace.Unknown || depth == 0 || e != api.OK {
		return []Leaf{{c, p}}
	}
	return append(plain(b, x, depth-1, most), plain(b, y, depth-1, most)...)
}

func TestShares(t *testing.T) { // P33.3, P33.5, P33.6
	b := brilliant(t)
	for i, c := range cells() {
		last := Count{}
		for depth := range 8 {
			s, e := Share(b, c, depth, 5)
			if e != api.OK || s.Returns+s.Leaks+s.Unknown != 1<<depth {
				t.Fatalf("P33.5: %d: %v %v", i, s, e)
			}
			if depth > 0 && (s.Returns < 2*last.Returns || s.Leaks < 2*last.Leaks || s.Unknown > 2*last.Unknown) {
				t.Fatalf("P33.3: %d: %v after %v", i, s, last)
			}
			last = s
			p, _ := cell.Trace(b, c, 5)
			x, y, e := Split(c)
			if depth > 0 && p.Kind == trace.Unknown && e == api.OK {
				sx, _ := Share(b, x, depth-1, 5)
				sy, _ := Share(b, y, depth-1, 5)
				if s != (Count{sx.Returns + sy.Returns, sx.Leaks + sy.Leaks, sx.Unknown + sy.Unknown}) {
					t.Fatalf("P33.5: %d", i)
				}
			}
			more, _ := Share(b, c, depth, 9)
			if more.Returns < s.Returns || more.Leaks < s.Leaks || more.Unknown > s.Unknown {
				t.Fatalf("P33.6: %d", i)
			}
		}
	}
	c := cell.Cell{Face: 4, X: iv(-one/2, one/2), Y: iv(-one/2, one/2)}
	for depth := range MaxDepth + 1 {
		l, _ := Leaves(cube(t), c, depth, 5)
		s, _ := Share(cube(t), c, depth, 5)
		if len(l) != 1 || s != (Count{Leaks: 1 << depth}) {
			t.Errorf("P33.5: example: %v", s)
		}
	}
}

func TestErrors(t *testing.T) { // P33.1
	b := cube(t)
	good := cell.Cell{Face: 4}
	off := cell.Cell{Face: 4, X: iv(2*one, 2*one)}
	bad := cell.Cell{Face: 9}
	for i, c := range []struct {
		c           cell.Cell
		depth, most int
		e           api.Errno
	}{{bad, -1, -1, api.ErrArg}, {off, -1, 21, api.ErrRange}, {off, -1, 5, api.ErrRange}, {off, 13, 5, api.ErrRange}, {off, 12, 5, api.ErrState}, {good, 13, 5, api.ErrRange}, {good, -1, 5, api.ErrRange}, {good, 12, 20, api.OK}} {
		l, e := Leaves(b, c.c, c.depth, c.most)
		s, e2 := Share(b, c.c, c.depth, c.most)
		if e != c.e || e2 != c.e || e != api.OK && (l != nil || s != (Count{})) {
			t.Errorf("P33.1: %d: %v %v", i, e, e2)
		}
	}
	far := cell.Cell{Face: 1, X: iv(60*one, 60*one), Y: iv(60*one, 60*one)}
	if _, e := Leaves(brilliant(t), far, 99, 5); e != api.ErrLimit {
		t.Errorf("P33.1: %v", e)
	}
}
