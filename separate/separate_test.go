package separate

import (
	"math/rand"
	"slices"
	"testing"

	"culet/api"
	"culet/cut"
	"culet/field"
	"culet/plane"
	"culet/solid"
	"culet/vector"
)

func num(s string) api.Num {
	x, _ := field.Parse(s)
	return x
}

func vec(s string) api.Vec {
	v, _ := vector.Parse(s)
	return v
}

func block() api.Solid {
	s, _ := solid.Block(1)
	return s
}

func shifted(t *testing.T, s api.Solid, v string) api.Solid {
	t.Helper()
	out, e := solid.Shift(s, vec(v))
	if e != api.OK {
		t.Fatal(e)
	}
	return out
}

func octahedron() api.Solid {
	l := []api.Plane{}
	for i := range 8 {
		l = append(l, api.Plane{N: vector.Of(1-i&1*2, 1-i&2, 1-i&4/2), D: num("3/2")})
	}
	s, _ := solid.Of(l)
	return s
}

// bar is long along one direction, and thin: two crossed bars are apart only by the planes of their edges.
func bar(long, wide api.Vec) api.Solid {
	third := vector.Cross(long, wide)
	l := []api.Plane{}
	for _, n := range []api.Vec{vector.Add(wide, third), vector.Sub(wide, third)} {
		l = append(l, api.Plane{N: n, D: num("1")}, api.Plane{N: vector.Neg(n), D: num("1")})
	}
	l = append(l, api.Plane{N: long, D: num("40")}, api.Plane{N: vector.Neg(long), D: num("40")})
	s, _ := solid.Of(l)
	return s
}

func solids(t *testing.T) []api.Solid {
	half, _ := solid.Scale(octahedron(), num("1/2"))
	turned, _ := solid.Move(block(), api.Motion{Turn: 3})
	return []api.Solid{block(), shifted(t, block(), "(2, 0, 0)"), shifted(t, block(), "(2, 2, 0)"), shifted(t, block(), "(1, 1, 1)"), octahedron(), half, shifted(t, half, "(5/4, 5/4, 5/4)"), shifted(t, turned, "(1+r2, 0, 1/3)"), shifted(t, turned, "(1+7/5, 0, 0)"), shifted(t, octahedron(), "(1, 1, -1)"), bar(vector.Of(1, 0, 0), vector.Of(0, 0, 1)), shifted(t, bar(vector.Of(0, 1, 0), vector.Of(0, 0, 1)), "(0, 0, 5/2)")}
}

// all lists the candidates word by word.
func all(a, b api.Solid) (l []api.Plane) {
	for _, f := range a.Faces {
		l = append(l, a.Planes[f.Plane])
	}
	for _, f := range b.Faces {
		o, _ := plane.Opposite(b.Planes[f.Plane])
		l = append(l, o)
	}
	for _, e := range solid.Edges(a) {
		for _, g := range solid.Edges(b) {
			n := vector.Cross(vector.Sub(a.Verts[e[1]], a.Verts[e[0]]), vector.Sub(b.Verts[g[1]], b.Verts[g[0]]))
			if vector.Zero(n) {
				continue
			}
			for _, n := range []api.Vec{n, vector.Neg(n)} {
				most := vector.Dot(n, a.Verts[0])
				for _, v := range a.Verts {
					if x := vector.Dot(n, v); field.Cmp(x, most) > 0 {
						most = x
					}
				}
				l = append(l, api.Plane{N: n, D: most})
			}
		}
	}
	return l
}

func TestSeparation(t *testing.T) { // P12.1, P12.2, P12.3
	l := solids(t)
	byEdges := 0
	for i, a := range l {
		for k, b := range l {
			p, e := Separator(a, b)
			c, e2 := Common(a, b)
			apart := Disjoint(a, b)
			if (e == api.OK) != apart || (e2 == api.OK) == apart || apart != Disjoint(b, a) {
				t.Fatalf("P12.2: %d %d: %v %v %v", i, k, apart, e, e2)
			}
			list := all(a, b)
			want := slices.IndexFunc(list, func(q api.Plane) bool { return separates(q, a, b) })
			if !apart {
				if want >= 0 || e != api.ErrOverlap || p != (api.Plane{}) || !solid.Valid(c) {
					t.Fatalf("P12.2: %d %d: %v", i, k, e)
				}
				continue
			}
			if e2 != api.ErrEmpty || want < 0 || list[want] != p {
				t.Fatalf("P12.1: %d %d: not the first candidate", i, k)
			}
			if want >= len(a.Faces)+len(b.Faces) {
				byEdges++
			}
			o, _ := plane.Opposite(p)
			if !Separates(p, a, b) || !Separates(o, b, a) || Separates(o, a, b) {
				t.Fatalf("P12.3: %d %d", i, k)
			}
		}
	}
	if byEdges == 0 {
		t.Error("no pair is separated by edges alone")
	}
}

func TestExamples(t *testing.T) { // P12.2
	x1 := api.Plane{N: vector.Of(1, 0, 0), D: num("1")}
	for _, v := range []string{"(2, 0, 0)", "(2, 2, 0)", "(2, 2, 2)", "(9, 1, 1)"} {
		if p, e := Separator(block(), shifted(t, block(), v)); p != x1 || e != api.OK {
			t.Errorf("P12.2: %s: %v", v, e)
		}
	}
	c, e := Common(block(), shifted(t, block(), "(1, 1, 1)"))
	if e != api.OK || len(c.Planes) != 12 || len(c.Verts) != 8 || c.Verts[0] != vector.Of(0, 0, 0) || c.Verts[7] != vector.Of(1, 1, 1) {
		t.Error("P12.4: example")
	}
}

func TestRandom(t *testing.T) { // P12.2: many solids that nearly touch
	r := rand.New(rand.NewSource(1))
	apart := 0
	for range 60 {
		v := vector.Of(r.Intn(9)-4, r.Intn(9)-4, r.Intn(9)-4)
		b, _ := solid.Shift(octahedron(), vector.Scale(v, num("1/2")))
		a := block()
		p, e := Separator(a, b)
		if _, e2 := Common(a, b); (e == api.OK) == (e2 == api.OK) || e == api.OK && !Separates(p, a, b) {
			t.Fatalf("P12.2: %s", vector.Print(v))
		}
		if e == api.OK {
			apart++
		}
	}
	if apart == 0 || apart == 60 {
		t.Error("P12.2: one-sided test")
	}
}

func TestCommon(t *testing.T) { // P12.4
	l := solids(t)[:9]
	for i, a := range l {
		for k, b := range l {
			c, e := Common(a, b)
			if e != api.OK {
				continue
			}
			if !Inside(c, a) || !Inside(c, b) || !Inside(c, c) || Disjoint(c, a) {
				t.Fatalf("P12.4: %d %d", i, k)
			}
			for x := range 27 {
				p := vector.Scale(vector.Of(x%3-1, x/3%3-1, x/9-1), num("1/2"))
				if (solid.Contains(c, p) <= 0) != (solid.Contains(a, p) <= 0 && solid.Contains(b, p) <= 0) {
					t.Fatalf("P12.4: %d %d: point", i, k)
				}
			}
			for _, d := range l {
				if Inside(d, a) && Inside(d, b) && !Inside(d, c) {
					t.Fatalf("P12.4: %d %d: within both", i, k)
				}
			}
		}
	}
}

func TestWithin(t *testing.T) { // P12.5
	for i, s := range solids(t) {
		p := api.Plane{N: vec("(1, 1/2, r2)"), D: vector.Dot(vec("(1, 1/2, r2)"), s.Verts[0])}
		p.D = field.Mul(field.Add(p.D, vector.Dot(p.N, s.Verts[len(s.Verts)-1])), num("1/2"))
		o, _ := plane.Opposite(p)
		a, _, e1 := cut.Cut(s, p)
		b, _, e2 := cut.Cut(s, o)
		if e1 != api.OK || e2 != api.OK || !Inside(a, s) || !Inside(b, s) || !Disjoint(a, b) || !Inside(s, s) || Inside(s, a) || !Separates(p, a, b) {
			t.Errorf("P12.5: %d: %v %v", i, e1, e2)
		}
	}
}

func TestMoved(t *testing.T) { // P12.6
	l := solids(t)[:8]
	m, v := api.Motion{Turn: 7, Flip: true}, vec("(1/3, -r3, 5)")
	moved := []api.Solid{}
	for _, s := range l {
		a, _ := solid.Move(s, m)
		b, _ := solid.Shift(a, v)
		moved = append(moved, b)
	}
	for i := range l {
		for k := range l {
			if Disjoint(l[i], l[k]) != Disjoint(moved[i], moved[k]) || Inside(l[i], l[k]) != Inside(moved[i], moved[k]) {
				t.Errorf("P12.6: %d %d", i, k)
			}
		}
	}
}

func TestClearance(t *testing.T) { // P12.1
	for _, d := range []string{"0", "1", "5/2", "r2"} {
		x, e := Clearance(block(), api.Plane{N: vector.Of(2, 0, 0), D: num(d)})
		if e != api.OK || x != field.Sub(num(d), num("2")) {
			t.Errorf("P12.1: %s: %s", d, field.Print(x))
		}
	}
}

func TestPairs(t *testing.T) { // P12.1
	l := solids(t)[:7]
	pairs, e := Pairs(l)
	want := [][2]int{}
	for i := range l {
		for k := i + 1; k < len(l); k++ {
			if !Disjoint(l[i], l[k]) {
				want = append(want, [2]int{i, k})
			}
		}
	}
	if e != api.OK || !slices.Equal(pairs, want) || len(want) == 0 {
		t.Errorf("P12.1: %v", pairs)
	}
	many := slices.Repeat([]api.Solid{block()}, 51)
	if p, e := Pairs(many); e != api.ErrLimit || p != nil {
		t.Errorf("P12.1: %v", e)
	}
	if p, e := Pairs(many[:50]); e != api.OK || len(p) != 50*49/2 {
		t.Errorf("P12.1: %v", e)
	}
	if _, e := Pairs(append(many, api.Solid{})); e != api.ErrArg {
		t.Errorf("P12.1: %v", e)
	}
	if p, e := Pairs(nil); e != api.OK || len(p) != 0 {
		t.Errorf("P12.1: %v", e)
	}
}

func TestErrors(t *testing.T) { // P12.1
	s := block()
	bad := s
	bad.Faces = nil
	p := s.Planes[0]
	_, e1 := Separator(bad, s)
	_, e2 := Separator(s, bad)
	_, e3 := Common(bad, s)
	_, e4 := Common(s, bad)
	_, e5 := Clearance(bad, p)
	_, e6 := Clearance(s, api.Plane{})
	for i, e := range []api.Errno{e1, e2, e3, e4, e5, e6} {
		if e != api.ErrArg {
			t.Errorf("P12.1: %d: %v", i+1, e)
		}
	}
	far := shifted(t, s, "(2, 0, 0)")
	if Separates(api.Plane{}, s, far) || Separates(p, bad, far) || Separates(p, s, bad) || Disjoint(bad, s) || Disjoint(s, bad) || Inside(bad, s) || Inside(s, bad) {
		t.Error("P12.1: invalid")
	}
}

// manyFaces has 96 faces.
func manyFaces(t *testing.T) api.Solid {
	t.Helper()
	l := []api.Plane{}
	for i := range 24 {
		for _, a := range [][3]int{{1, 0, 10}, {4, 3, 48}, {4, -3, 48}, {3, 4, 44}} {
			p, _ := plane.Of(api.Setting{H: a[0], V: a[1], Index: i}, field.Of(a[2]))
			l = append(l, p)
		}
	}
	s, e := solid.Of(l)
	if e != api.OK || len(s.Faces) < 60 {
		t.Fatal(e, len(s.Faces))
	}
	return s
}

func TestManyFaces(t *testing.T) { // P12.1: more planes than a solid may have
	s := manyFaces(t)
	if _, e := Common(s, s); e != api.ErrLimit {
		t.Errorf("P12.1: %v", e)
	}
	if _, e := Separator(s, shifted(t, s, "(1, 2, 19)")); e != api.ErrOverlap {
		t.Errorf("P12.1: %v", e)
	}
	apart := shifted(t, s, "(20, 0, 0)")
	if p, e := Separator(s, apart); e != api.OK || !Separates(p, s, apart) || !Disjoint(s, apart) {
		t.Errorf("P12.1: %v", e)
	}
}
