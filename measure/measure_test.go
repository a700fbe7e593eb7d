package measure

import (
	"slices"
	"testing"

	"culet/api"
	"culet/cut"
	"culet/field"
	"culet/plane"
	"culet/polygon"
	"culet/solid"
	"culet/vector"
	"culet/wheel"
)

func num(s string) api.Num {
	x, _ := field.Parse(s)
	return x
}

func vec(s string) api.Vec {
	v, _ := vector.Parse(s)
	return v
}

func of(n, d string) api.Plane { return api.Plane{N: vec(n), D: num(d)} }

func ring(h, v, start, step int, depth string) (l []api.Plane) {
	for i := start; i < 24; i += step {
		p, _ := plane.Of(api.Setting{H: h, V: v, Index: i}, num(depth))
		l = append(l, p)
	}
	return l
}

func solids() []api.Solid {
	l := []api.Solid{}
	block, _ := solid.Block(1)
	for _, planes := range [][]api.Plane{
		block.Planes,
		{of("(1, 1, 1)", "1"), of("(-1, 0, 0)", "0"), of("(0, -1, 0)", "0"), of("(0, 0, -1)", "0")},
		append(slices.Clone(block.Planes), of("(1, 1, 1)", "2")),
		slices.Concat(ring(1, 1, 0, 8, "1"), ring(2, -1, 1, 8, "1/2")),
		slices.Concat(ring(1, 1, 1, 6, "1"), ring(1, 0, 0, 4, "1"), []api.Plane{of("(0, 0, -1)", "1/2")}),
	} {
		s, _ := solid.Of(planes)
		l = append(l, s)
	}
	return l
}

func volumeOf(t *testing.T, s api.Solid) api.Num {
	t.Helper()
	v, e := Volume(s)
	if e != api.OK || field.Sign(v) <= 0 {
		t.Fatalf("P9.1: %v", e)
	}
	return v
}

func knives() []api.Plane {
	return []api.Plane{of("(1, 1, 1)", "1/3"), of("(1, 0, 0)", "0"), of("(0, r2, -1)", "1/5"), of("(0, 0, 1)", "9"), of("(0, 0, 1)", "-9")}
}

func TestVolumes(t *testing.T) { // P9.1, P9.2
	for i, s := range solids() {
		want := field.Of(0)
		for k, f := range s.Faces {
			a, _ := Area(s, k)
			want = field.Add(want, vector.Dot(s.Verts[f.Loop[0]], a))
		}
		whole := volumeOf(t, s)
		if field.Mul(whole, field.Of(3)) != want {
			t.Errorf("P9.1: %d", i)
		}
		for k, p := range knives() {
			o, _ := plane.Opposite(p)
			a, _, e1 := cut.Cut(s, p)
			b, _, e2 := cut.Cut(s, o)
			sum, parts := field.Of(0), []api.Solid{}
			if e1 == api.OK {
				parts = append(parts, a)
			}
			if e2 == api.OK {
				parts = append(parts, b)
			}
			moment := vector.Of(0, 0, 0)
			for _, part := range parts {
				v := volumeOf(t, part)
				c, _ := Centroid(part)
				sum = field.Add(sum, v)
				moment = vector.Add(moment, vector.Scale(c, v))
			}
			removed, e := Removed(s, p)
			rest := field.Of(0)
			if e2 == api.OK {
				rest = volumeOf(t, b)
			}
			if sum != whole || removed != rest || e != api.OK {
				t.Errorf("P9.2: %d %d: %v", i, k, e)
			}
			c, _ := Centroid(s)
			if vector.Scale(c, whole) != moment {
				t.Errorf("P9.5: %d %d", i, k)
			}
		}
	}
	if v := volumeOf(t, solids()[1]); v != num("1/6") {
		t.Errorf("P9.1: tetrahedron: %s", field.Print(v))
	}
}

func TestMoved(t *testing.T) { // P9.3
	shift, k := vec("(1/2, -r2, 3)"), num("2/3r3")
	cube := field.Mul(k, field.Mul(k, k))
	for i, s := range solids() {
		whole := volumeOf(t, s)
		c, _ := Centroid(s)
		for _, m := range []api.Motion{{Turn: 6}, {Turn: 7, Flip: true}} {
			moved, _ := solid.Move(s, m)
			mc, _ := Centroid(moved)
			if volumeOf(t, moved) != whole || mc != wheel.Move(c, m) {
				t.Errorf("P9.3: %d %v", i, m)
			}
			for f := range s.Faces {
				a, _ := Area2(s, f)
				b, _ := Area2(moved, f)
				if a != b {
					t.Errorf("P9.3: %d %v: area", i, m)
				}
			}
		}
		shifted, _ := solid.Shift(s, shift)
		scaled, _ := solid.Scale(s, k)
		sc, _ := Centroid(shifted)
		kc, _ := Centroid(scaled)
		if volumeOf(t, shifted) != whole || sc != vector.Add(c, shift) || volumeOf(t, scaled) != field.Mul(whole, cube) || kc != vector.Scale(c, k) {
			t.Errorf("P9.3: %d", i)
		}
		for f := range s.Faces {
			a, _ := Area(s, f)
			b, _ := Area(scaled, f)
			if b != vector.Scale(a, field.Mul(k, k)) {
				t.Errorf("P9.3: %d: area vector", i)
			}
		}
	}
}

func TestClosed(t *testing.T) { // P9.4, P9.5
	for i, s := range solids() {
		sum := vector.Of(0, 0, 0)
		for k, f := range s.Faces {
			a, e := Area(s, k)
			l, _ := solid.Polygon(s, k)
			want, _ := polygon.Area(l)
			n := s.Planes[f.Plane].N
			if e != api.OK || a != want || !vector.Zero(vector.Cross(a, n)) || field.Sign(vector.Dot(a, n)) != 1 {
				t.Errorf("P9.4: %d %d", i, k)
			}
			if square, _ := Area2(s, k); square != vector.Dot(a, a) {
				t.Errorf("P9.1: %d %d: Area2", i, k)
			}
			sum = vector.Add(sum, a)
		}
		c, e := Centroid(s)
		if !vector.Zero(sum) || e != api.OK || solid.Contains(s, c) != -1 {
			t.Errorf("P9.4: %d", i)
		}
	}
}

func TestExtents(t *testing.T) { // P9.6
	for i, s := range solids() {
		for _, d := range []string{"(1, 0, 0)", "(0, 0, -2)", "(r2, 1/3, -1)"} {
			dir := vec(d)
			lo, hi, e := Extent(s, dir)
			olo, ohi, _ := Extent(s, vector.Neg(dir))
			if e != api.OK || olo != field.Neg(hi) || ohi != field.Neg(lo) {
				t.Errorf("P9.6: %d: %s", i, d)
			}
			reached := [2]bool{}
			for _, v := range s.Verts {
				x := vector.Dot(v, dir)
				if field.Cmp(x, lo) < 0 || field.Cmp(x, hi) > 0 {
					t.Errorf("P9.6: %d: %s", i, d)
				}
				reached[0] = reached[0] || x == lo
				reached[1] = reached[1] || x == hi
			}
			if !reached[0] || !reached[1] {
				t.Errorf("P9.6: %d: %s: not reached", i, d)
			}
		}
	}
}

func TestWeights(t *testing.T) { // P9.7
	for i, s := range solids() {
		one, _ := Weight(s, 1)
		for _, d := range []int{1, 2, 3520, api.MaxDensity} {
			w, e := Weight(s, d)
			if e != api.OK || w != field.Mul(one, field.Of(d)) || field.Mul(w, field.Of(1000)) != field.Mul(volumeOf(t, s), field.Of(d)) {
				t.Errorf("P9.7: %d: %d", i, d)
			}
		}
		for _, d := range []int{0, -1, api.MaxDensity + 1} {
			if w, e := Weight(s, d); e != api.ErrRange || w != (api.Num{}) {
				t.Errorf("P9.1: density %d: %v", d, e)
			}
		}
	}
	w, _ := Weight(solids()[0], 3520)
	c, _ := Carats(w)
	if w != num("704/25") || c != num("88/625") {
		t.Error("P9.7: example")
	}
	if c, e := Carats(num("-r2")); c != num("-1/200r2") || e != api.OK {
		t.Error("P9.7: Carats")
	}
}

func TestErrors(t *testing.T) { // P9.1
	s := solids()[0]
	bad := s
	bad.Verts = bad.Verts[1:]
	dir, p := vector.Of(1, 0, 0), knives()[0]
	_, e1 := Volume(bad)
	_, e2 := Centroid(bad)
	_, _, e3 := Extent(bad, dir)
	_, e4 := Area(bad, -1)
	_, e5 := Area2(bad, -1)
	_, e6 := Weight(bad, 0)
	_, e7 := Removed(bad, p)
	_, _, e8 := Extent(s, api.Vec{})
	_, _, e9 := Extent(s, vector.Of(0, 0, 0))
	_, e10 := Carats(api.Num{})
	_, e11 := Removed(s, api.Plane{})
	for i, e := range []api.Errno{e1, e2, e3, e4, e5, e6, e7, e8, e9, e10, e11} {
		if e != api.ErrArg {
			t.Errorf("P9.1: %d: %v", i+1, e)
		}
	}
	for _, f := range []int{-1, 6} {
		_, e1 := Area(s, f)
		_, e2 := Area2(s, f)
		if e1 != api.ErrRange || e2 != api.ErrRange {
			t.Errorf("P9.1: face %d", f)
		}
	}
	full, _ := solid.Of(slices.Repeat(s.Planes, 17)[:100])
	if v, e := Removed(full, p); e != api.ErrLimit || v != (api.Num{}) {
		t.Errorf("P9.1: Removed: %v", e)
	}
}
