package symmetry

import (
	"reflect"
	"slices"
	"testing"

	"culet/api"
	"culet/field"
	"culet/measure"
	"culet/plane"
	"culet/solid"
	"culet/vector"
	"culet/wheel"
)

func num(s string) api.Num {
	x, _ := field.Parse(s)
	return x
}

func ring(h, v, start, step int, depth string) (l []api.Plane) {
	for i := start; i < 24; i += step {
		p, _ := plane.Of(api.Setting{H: h, V: v, Index: i}, num(depth))
		l = append(l, p)
	}
	return l
}

func flat(v int, depth string) api.Plane {
	p, _ := plane.Of(api.Setting{V: v}, num(depth))
	return p
}

// solids returns solids with their orders and mirrors.
func solids(t *testing.T) (l []api.Solid, orders []int, mirrors []bool) {
	t.Helper()
	add := func(order int, mirror bool, planes ...[]api.Plane) {
		s, e := solid.Of(slices.Concat(planes...))
		if e != api.OK {
			t.Fatal(e)
		}
		l, orders, mirrors = append(l, s), append(orders, order), append(mirrors, mirror)
	}
	block, _ := solid.Block(1)
	tilted := api.Plane{N: vector.Of(1, 1, 1), D: num("2")}
	crooked := api.Plane{N: vector.Of(3, 1, 1), D: num("4")}
	add(4, true, block.Planes)
	add(1, true, block.Planes, []api.Plane{tilted})
	add(1, false, block.Planes, []api.Plane{crooked})
	add(3, true, ring(1, 1, 0, 8, "1"), []api.Plane{flat(-1, "0")})
	add(24, true, ring(1, 0, 0, 1, "1"), []api.Plane{flat(1, "1"), flat(-1, "1")})
	add(8, true, ring(4, 3, 0, 3, "9/2"), ring(3, -4, 0, 3, "4"))
	add(4, false, ring(1, 0, 0, 6, "1"), ring(1, 1, 1, 6, "1"), []api.Plane{flat(-1, "1")})
	return l, orders, mirrors
}

func TestGroup(t *testing.T) { // P10.1, P10.2
	l, orders, mirrors := solids(t)
	for i, s := range l {
		ms, e := Symmetries(s)
		order, mirror, e2 := Order(s)
		if e != api.OK || e2 != api.OK || order != orders[i] || mirror != mirrors[i] || 24%order != 0 {
			t.Errorf("P10.1: %d: order %d %v", i, order, mirror)
		}
		want := []api.Motion{}
		for _, m := range motions() {
			if moved, _ := solid.Move(s, m); solid.Equal(moved, s) {
				want = append(want, m)
			}
		}
		if !slices.Equal(ms, want) || mirror && len(ms) != 2*order {
			t.Errorf("P10.1: %d: %v", i, ms)
		}
		for _, a := range ms {
			for _, b := range ms {
				if !slices.Contains(ms, wheel.Compose(a, b)) || !slices.Contains(ms, wheel.Inverse(a)) {
					t.Errorf("P10.2: %d", i)
				}
			}
		}
	}
}

func TestOrbits(t *testing.T) { // P10.3
	l, _, _ := solids(t)
	for i, s := range l {
		ms, _ := Symmetries(s)
		orbits, e := Orbits(s)
		if e != api.OK {
			t.Fatal(e)
		}
		seen := map[int]bool{}
		for k, o := range orbits {
			if len(ms)%len(o) != 0 || !slices.IsSorted(o) || k > 0 && orbits[k-1][0] >= o[0] {
				t.Errorf("P10.3: %d: %v", i, orbits)
			}
			first, _ := measure.Area2(s, o[0])
			for _, f := range o {
				area, _ := measure.Area2(s, f)
				if seen[f] || area != first || len(s.Faces[f].Loop) != len(s.Faces[o[0]].Loop) {
					t.Errorf("P10.3: %d: face %d", i, f)
				}
				seen[f] = true
				for _, m := range ms {
					moved, _ := plane.Move(s.Planes[s.Faces[o[0]].Plane], m)
					if plane.Same(moved, s.Planes[s.Faces[f].Plane]) != plane.Same(s.Planes[s.Faces[f].Plane], moved) {
						t.Errorf("P10.3: %d", i)
					}
				}
			}
			for _, m := range ms {
				moved, _ := plane.Move(s.Planes[s.Faces[o[0]].Plane], m)
				if !slices.ContainsFunc(o, func(f int) bool { return plane.Same(moved, s.Planes[s.Faces[f].Plane]) }) {
					t.Errorf("P10.3: %d: %v leaves the orbit", i, m)
				}
			}
		}
		if len(seen) != len(s.Faces) {
			t.Errorf("P10.3: %d: %v", i, orbits)
		}
	}
	if o, _ := Orbits(l[0]); !reflect.DeepEqual(o, [][]int{{0, 1, 2, 3}, {4}, {5}}) {
		t.Errorf("P10.3: example: %v", o)
	}
}

func moved(t *testing.T, s api.Solid, m api.Motion, k, z string) api.Solid {
	t.Helper()
	out, e := Apply(s, Similarity{m, num(k), num(z)})
	if e != api.OK || !solid.Valid(out) {
		t.Fatal(e)
	}
	return out
}

func TestCongruence(t *testing.T) { // P10.4, P10.6
	l, _, _ := solids(t)
	for i, s := range l {
		for _, m := range []api.Motion{{Turn: 5}, {Turn: 3, Flip: true}} {
			for _, z := range []string{"0", "-3/2r2"} {
				a, b := moved(t, s, m, "1", z), moved(t, s, m, "2/3r3", z)
				x, e := Congruent(s, a)
				y, e2 := Similar(s, b)
				if e != api.OK || e2 != api.OK || x.Scale != num("1") || x.Shift != num(z) || y.Scale != num("2/3r3") || y.Shift != num(z) {
					t.Fatalf("P10.4: %d %v: %v %v", i, m, e, e2)
				}
				p, _ := Apply(s, x)
				q, _ := Apply(s, y)
				if !solid.Equal(p, a) || !solid.Equal(q, b) {
					t.Errorf("P10.4: %d %v", i, m)
				}
				if z, _ := Similar(s, a); z != x {
					t.Errorf("P10.4: %d %v: other similarity", i, m)
				}
				v, _ := measure.Volume(s)
				if w, _ := measure.Volume(a); v != w || len(a.Verts) != len(s.Verts) {
					t.Errorf("P10.6: %d", i)
				}
				if z, e := Congruent(s, b); e != api.ErrNone || z != (Similarity{}) {
					t.Errorf("P10.4: %d: scaled: %v", i, e)
				}
			}
		}
	}
	aside, _ := solid.Shift(l[0], vector.Of(1, 0, 0))
	if _, e := Congruent(l[0], aside); e != api.ErrNone {
		t.Error("P10.4: shifted aside")
	}
	for i, a := range l {
		for k, b := range l {
			if _, e := Similar(a, b); (e == api.OK) != (i == k) {
				t.Errorf("P10.4: %d %d: %v", i, k, e)
			}
		}
	}
}

func TestEquivalence(t *testing.T) { // P10.5
	l, _, _ := solids(t)
	for i, s := range l {
		a := moved(t, s, api.Motion{Turn: 2, Flip: true}, "2", "1")
		b := moved(t, a, api.Motion{Turn: 9}, "1/2r2", "-1")
		_, e1 := Similar(a, s)
		_, e2 := Similar(s, b)
		if e1 != api.OK || e2 != api.OK {
			t.Errorf("P10.5: %d: %v %v", i, e1, e2)
		}
		ms, _ := Symmetries(s)
		count, first := 0, api.Motion{}
		x, _ := Similar(s, a)
		for _, m := range motions() {
			if c, _ := Apply(s, Similarity{m, x.Scale, x.Shift}); solid.Equal(c, a) {
				if count == 0 {
					first = m
				}
				count++
			}
		}
		if count != len(ms) || x.Motion != first {
			t.Errorf("P10.5: %d: %d motions", i, count)
		}
	}
}

func TestErrors(t *testing.T) { // P10.1
	s, _ := solid.Block(1)
	bad := s
	bad.Faces = nil
	id := Similarity{api.Motion{}, num("1"), num("0")}
	_, e1 := Symmetries(bad)
	_, _, e2 := Order(bad)
	_, e3 := Orbits(bad)
	_, e4 := Congruent(bad, s)
	_, e5 := Congruent(s, bad)
	_, e6 := Similar(bad, s)
	_, e7 := Similar(s, bad)
	_, e8 := Apply(bad, Similarity{api.Motion{}, num("-1"), num("0")})
	_, e9 := Apply(s, Similarity{api.Motion{Turn: 24}, num("1"), num("0")})
	_, e10 := Apply(s, Similarity{api.Motion{}, api.Num{}, num("0")})
	_, e11 := Apply(s, Similarity{api.Motion{}, num("0"), api.Num{}})
	for i, e := range []api.Errno{e1, e2, e3, e4, e5, e6, e7, e8, e9, e10, e11} {
		if e != api.ErrArg {
			t.Errorf("P10.1: %d: %v", i+1, e)
		}
	}
	for _, k := range []string{"0", "-1"} {
		if out, e := Apply(s, Similarity{api.Motion{}, num(k), num("0")}); e != api.ErrRange || len(out.Planes) > 0 {
			t.Errorf("P10.1: scale %s: %v", k, e)
		}
	}
	if x, e := Congruent(s, s); x != id || e != api.OK {
		t.Error("P10.1: identity")
	}
}
