package flaw

import (
	"reflect"
	"slices"
	"testing"

	"culet/api"
	"culet/field"
	"culet/separate"
	"culet/solid"
	"culet/vector"
)

func num(s string) api.Num {
	x, _ := field.Parse(s)
	return x
}

func vec(s string) api.Vec {
	v, _ := vector.Parse(s)
	return v
}

func of(n, d string) api.Plane { return api.Plane{N: vec(n), D: num(d)} }

func block() api.Solid {
	s, _ := solid.Block(1)
	return s
}

func point(t *testing.T, at, half string) Flaw {
	t.Helper()
	f, e := Point("p", vec(at), num(half))
	if e != api.OK || !Valid(f) {
		t.Fatal(e)
	}
	return f
}

func flaws(t *testing.T) []Flaw {
	return []Flaw{
		point(t, "(0, 0, 0)", "1"), point(t, "(2, 0, 0)", "1"), point(t, "(1/3, -r2, 1)", "1/2"),
		{"tetra", []api.Plane{of("(1, 1, 1)", "1"), of("(-1, 0, 0)", "0"), of("(0, -1, 0)", "0"), of("(0, 0, -1)", "1/3")}},
		{"skew", []api.Plane{of("(r2, 1, 1)", "3"), of("(-1, 1/2, 0)", "1"), of("(0, -1, 3)", "2"), of("(0, 0, -1)", "1/3"), of("(0, -1, 0)", "1")}},
	}
}

func invalid(t *testing.T) []Flaw {
	f := flaws(t)[0]
	return []Flaw{{}, {"at", f.Planes}, {"x", f.Planes[1:]}, {"x", append(f.Planes, api.Plane{})}}
}

func region(t *testing.T, f Flaw) api.Solid {
	t.Helper()
	s, e := Solid(f)
	if e != api.OK {
		t.Fatal(e)
	}
	return s
}

func TestGrown(t *testing.T) { // P42.2, P42.3
	for i, f := range flaws(t) {
		for _, c := range []string{"0", "1/2", "r2"} {
			g, e := Grow(f, num(c))
			if e != api.OK || g.Name != f.Name || len(g.Planes) != len(f.Planes) {
				t.Fatalf("P42.2: %d: %v", i, e)
			}
			big := region(t, g)
			for _, v := range []api.Vec{vec("(0, 0, 0)"), {X: num(c), Y: num(c), Z: field.Neg(num(c))}, {X: field.Neg(num(c)), Y: num("0"), Z: num(c)}} {
				s, _ := solid.Shift(region(t, f), v)
				if !separate.Inside(s, big) {
					t.Errorf("P42.2: %d by %s", i, c)
				}
			}
			for _, at := range []string{"(2, 0, 0)", "(5/2, 1, 0)", "(0, 0, 3)"} {
				s, _ := solid.Shift(block(), vec(at))
				if separate.Disjoint(s, big) && !separate.Disjoint(s, region(t, f)) {
					t.Errorf("P42.2: %d by %s: avoids", i, c)
				}
			}
			twice, _ := Grow(g, num("1/3"))
			once, _ := Grow(f, field.Add(num(c), num("1/3")))
			if !reflect.DeepEqual(twice, once) {
				t.Errorf("P42.3: %d: %s", i, c)
			}
		}
		if g, e := Grow(f, num("1-r2")); e != api.ErrRange || g.Planes != nil {
			t.Errorf("P42.1: %v", e)
		}
	}
	l := flaws(t)
	g, _ := Grow(l[0], num("1/2"))
	if !separate.Disjoint(region(t, l[0]), region(t, l[1])) || separate.Disjoint(region(t, g), region(t, l[1])) {
		t.Error("P42.2: example")
	}
	skew, _ := Grow(Flaw{"x", append(slices.Clone(l[0].Planes), of("(1, -2, 1/3)", "1"))}, num("2"))
	if skew.Planes[6] != of("(1, -2, 1/3)", "23/3") {
		t.Errorf("P42.2: %v", skew.Planes[6])
	}
}

func TestPoint(t *testing.T) { // P42.4
	for _, at := range []string{"(0, 0, 0)", "(1, -r2, 1/3)"} {
		for _, h := range []string{"1", "1/2r3"} {
			f := point(t, at, h)
			s := region(t, f)
			for _, d := range []string{"(0, 0, 0)", "(1, 1, 1)", "(1/2, -1/2, 0)", "(1, 0, -1)", "(9/10, 9/10, -9/10)", "(5/4, 0, 0)"} {
				inside := -1
				for _, x := range []api.Num{vec(d).X, vec(d).Y, vec(d).Z} {
					inside = max(inside, field.Cmp(field.Abs(x), num(h)))
				}
				if solid.Contains(s, vector.Add(vec(at), vec(d))) != inside {
					t.Errorf("P42.4: %s %s: %s", at, h, d)
				}
			}
		}
	}
	if f := point(t, "(0, 0, 0)", "1"); !slices.Equal(f.Planes, block().Planes) || f.Name != "p" {
		t.Error("P42.4: example")
	}
	for i, c := range []struct {
		name string
		at   api.Vec
		half api.Num
		e    api.Errno
	}{{"at", vec("(0, 0, 0)"), num("0"), api.ErrArg}, {"p", api.Vec{}, num("0"), api.ErrArg}, {"p", vec("(0, 0, 0)"), api.Num{}, api.ErrArg}, {"p", vec("(0, 0, 0)"), num("0"), api.ErrRange}, {"p", vec("(0, 0, 0)"), num("-1"), api.ErrRange}} {
		if f, e := Point(c.name, c.at, c.half); e != c.e || f.Planes != nil {
			t.Errorf("P42.1: %d: %v", i, e)
		}
	}
}

func TestHit(t *testing.T) { // P42.5, P42.6
	l := flaws(t)
	for i, f := range l {
		s := region(t, f)
		at := vector.Of(0, 0, 0)
		for _, v := range s.Verts {
			at = vector.Add(at, v)
		}
		k, _ := field.Ratio(1, len(s.Verts))
		around := region(t, Flaw{"x", mustPoint(t, vector.Scale(at, k))})
		if j, e := Hit([]Flaw{f}, around); j != 0 || e != api.OK {
			t.Errorf("P42.5: %d: %v", i, e)
		}
		for _, to := range []string{"(3, 0, 0)", "(0, -r3, 1/7)"} {
			moved := []Flaw{}
			for _, g := range l {
				h, e := Shift(g, vec(to))
				if e != api.OK || h.Name != g.Name {
					t.Fatal(e)
				}
				moved = append(moved, h)
			}
			other, _ := solid.Shift(s, vec(to))
			a, e1 := Hit(l[1:], s)
			b, e2 := Hit(moved[1:], other)
			if a != b || e1 != e2 {
				t.Errorf("P42.6: %d", i)
			}
		}
	}
	far, _ := solid.Shift(block(), vec("(9, 0, 0)"))
	near, _ := solid.Shift(block(), vec("(3, 0, 0)"))
	for i, c := range []struct {
		s  api.Solid
		at int
		e  api.Errno
	}{{far, 0, api.ErrNone}, {near, 1, api.OK}, {block(), 0, api.OK}} {
		if at, e := Hit(l[:2], c.s); at != c.at || e != c.e {
			t.Errorf("P42.1: %d: %d %v", i, at, e)
		}
	}
	if at, e := Hit(append(slices.Repeat(l[1:2], 19), l[0]), block()); at != 19 || e != api.OK {
		t.Errorf("P42.1: 20 flaws: %d %v", at, e)
	}
	if at, e := Hit([]Flaw{{}}, block()); at != 0 || e != api.ErrArg {
		t.Errorf("P42.1: %d %v", at, e)
	}
	if _, e := Hit(nil, block()); e != api.ErrNone {
		t.Errorf("P42.1: %v", e)
	}
}

func mustPoint(t *testing.T, at api.Vec) []api.Plane {
	t.Helper()
	f, e := Point("x", at, num("1/1000"))
	if e != api.OK {
		t.Fatal(e)
	}
	return f.Planes
}

func TestApart(t *testing.T) { // P42.1
	l := flaws(t)
	pairs, e := Apart(l)
	want := [][2]int{}
	for i := range l {
		for k := i + 1; k < len(l); k++ {
			if !separate.Disjoint(region(t, l[i]), region(t, l[k])) {
				want = append(want, [2]int{i, k})
			}
		}
	}
	if e != api.OK || !slices.Equal(pairs, want) || len(want) == 0 {
		t.Errorf("P42.1: %v, want %v", pairs, want)
	}
	if pairs, e := Apart(slices.Repeat(l[:1], 20)); len(pairs) != 190 || e != api.OK {
		t.Errorf("P42.1: %d %v", len(pairs), e)
	}
}

func TestErrors(t *testing.T) { // P42.1
	good := flaws(t)[0]
	for i, f := range invalid(t) {
		_, e1 := Grow(f, num("-1"))
		_, e2 := Shift(f, vec("(0, 0, 0)"))
		_, e3 := Hit([]Flaw{good, f}, block())
		_, e4 := Apart([]Flaw{good, f})
		for k, e := range []api.Errno{e1, e2, e3, e4} {
			if e != api.ErrArg {
				t.Errorf("P42.1: %d %d: %v", i, k, e)
			}
		}
		want := api.ErrArg
		if i == 2 {
			want = api.ErrOpen
		}
		if s, e := Solid(f); Valid(f) || e != want || len(s.Planes) > 0 {
			t.Errorf("P42.1: %d: %v", i, e)
		}
	}
	_, e1 := Grow(good, api.Num{})
	_, e2 := Shift(good, api.Vec{})
	_, e3 := Hit([]Flaw{good}, api.Solid{})
	if e1 != api.ErrArg || e2 != api.ErrArg || e3 != api.ErrArg {
		t.Errorf("P42.1: %v %v %v", e1, e2, e3)
	}
	many := slices.Repeat([]Flaw{{}}, 21)
	_, e1 = Hit(many, api.Solid{})
	pairs, e2 := Apart(many)
	if e1 != api.ErrLimit || e2 != api.ErrLimit || pairs != nil {
		t.Errorf("P42.1: %v %v", e1, e2)
	}
}
