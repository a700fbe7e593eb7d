package section

import (
	"slices"
	"testing"

	"culet/api"
	"culet/field"
	"culet/measure"
	"culet/plane"
	"culet/polygon"
	"culet/solid"
	"culet/vector"
	"culet/wheel"
)

var up = vector.Of(0, 0, 1)

func num(s string) api.Num {
	x, _ := field.Parse(s)
	return x
}

func ring(h, v, start, step int, depth string) (l []api.Plane) {
	for i := start; i < 24; i += step {
		p, _ := plane.Of(api.Setting{H: h, V: v, Index: i}, num(depth))
		l = append(l, p)
	}
	return l
}

func flat(v int, depth string) api.Plane {
	p, _ := plane.Of(api.Setting{V: v}, num(depth))
	return p
}

func solids() (l []api.Solid) {
	block, _ := solid.Block(1)
	for _, planes := range [][]api.Plane{
		block.Planes,
		append(slices.Clone(block.Planes), api.Plane{N: vector.Of(1, 2, 3), D: num("3")}),
		append(ring(1, 1, 0, 8, "1"), flat(-1, "0")),
		slices.Concat(ring(4, 3, 0, 3, "9/2"), ring(3, -4, 0, 3, "4")),
		slices.Concat(ring(2, 1, 1, 6, "1"), ring(1, -1, 0, 6, "1/3r2"), []api.Plane{flat(1, "1/2")}),
	} {
		s, _ := solid.Of(planes)
		l = append(l, s)
	}
	return l
}

func ends(s api.Solid) (lo, hi api.Num) {
	h, _ := Heights(s)
	return h[0], h[len(h)-1]
}

func mix(a, b api.Num, n, d int) api.Num {
	k, _ := field.Ratio(n, d)
	return field.Add(a, field.Mul(k, field.Sub(b, a)))
}

func TestSections(t *testing.T) { // P11.1, P11.2, P11.3
	for i, s := range solids() {
		lo, hi := ends(s)
		plan, _ := Plan(s)
		for k := -1; k <= 7; k++ {
			z := mix(lo, hi, k, 6)
			l, e := At(s, z)
			flatFace := slices.ContainsFunc(s.Faces, func(f api.Face) bool {
				n := s.Planes[f.Plane].N
				return vector.Zero(vector.Cross(n, up)) && s.Verts[f.Loop[0]].Z == z
			})
			if want := k > 0 && k < 6 || flatFace; want != (e == api.OK) || !want && (e != api.ErrEmpty || l != nil) {
				t.Fatalf("P11.2: %d %d: %v", i, k, e)
			}
			if e != api.OK {
				continue
			}
			if !polygon.Valid(l, up) || !slices.Equal(polygon.First(l), l) {
				t.Fatalf("P11.1: %d %d", i, k)
			}
			for _, p := range l {
				if p.Z != z || solid.Contains(s, p) != 0 || polygon.Contains(plan, up, api.Vec{X: p.X, Y: p.Y, Z: num("0")}) == 1 {
					t.Fatalf("P11.3: %d %d", i, k)
				}
			}
			for x := -4; x <= 4; x++ {
				for y := -4; y <= 4; y++ {
					a, _ := field.Ratio(x, 3)
					b, _ := field.Ratio(y, 3)
					p := api.Vec{X: a, Y: b, Z: z}
					if (solid.Contains(s, p) <= 0) != (polygon.Contains(l, up, p) <= 0) {
						t.Fatalf("P11.2: %d %d: %s", i, k, vector.Print(p))
					}
				}
			}
		}
	}
	block := solids()[0]
	if l, _ := At(block, num("0")); len(l) != 4 || l[0] != vector.Of(-1, -1, 0) || l[2] != vector.Of(1, 1, 0) {
		t.Error("P11.2: example")
	}
}

func TestPlan(t *testing.T) { // P11.3, P11.6
	for i, s := range solids() {
		l, e := Plan(s)
		if e != api.OK || !polygon.Valid(l, up) || !slices.Equal(polygon.First(l), l) || l[0].Z != num("0") {
			t.Fatalf("P11.1: %d: %v", i, e)
		}
		for _, v := range s.Verts {
			if polygon.Contains(l, up, api.Vec{X: v.X, Y: v.Y, Z: num("0")}) == 1 {
				t.Errorf("P11.3: %d", i)
			}
		}
		area, _ := polygon.Area(l)
		volume, _ := measure.Volume(s)
		lo, hi := ends(s)
		if field.Cmp(volume, field.Mul(area.Z, field.Sub(hi, lo))) > 0 {
			t.Errorf("P11.6: %d", i)
		}
	}
}

func TestProfiles(t *testing.T) { // P11.4
	for i, s := range solids() {
		lo, hi := ends(s)
		for p := range 24 {
			l, e := Profile(s, p)
			w, e2 := Width(s, p)
			if e != api.OK || e2 != api.OK || !polygon.Valid(l, up) || !slices.Equal(polygon.First(l), l) {
				t.Fatalf("P11.4: %d %d: %v", i, p, e)
			}
			xs, ys := []api.Num{}, []api.Num{}
			mirror := []api.Vec{}
			for _, v := range l {
				xs, ys = append(xs, v.X), append(ys, v.Y)
				mirror = append([]api.Vec{{X: field.Neg(v.X), Y: v.Y, Z: v.Z}}, mirror...)
			}
			slices.SortFunc(xs, field.Cmp)
			slices.SortFunc(ys, field.Cmp)
			if field.Sub(xs[len(xs)-1], xs[0]) != w || ys[0] != lo || ys[len(ys)-1] != hi {
				t.Errorf("P11.4: %d %d: extent", i, p)
			}
			dlo, dhi, _ := measure.Extent(s, api.Vec{X: wheel.Cos(p), Y: wheel.Sin(p), Z: num("0")})
			if field.Sub(dhi, dlo) != w || xs[0] != dlo {
				t.Errorf("P11.4: %d %d: width", i, p)
			}
			if other, _ := Profile(s, (p+12)%24); !polygon.Same(other, mirror) {
				t.Errorf("P11.4: %d %d: opposite", i, p)
			}
		}
		for _, turn := range []int{1, 6, 17} {
			moved, _ := solid.Move(s, api.Motion{Turn: turn})
			a, _ := Profile(moved, (5+turn)%24)
			b, _ := Profile(s, 5)
			if !slices.Equal(a, b) {
				t.Errorf("P11.4: %d: turned by %d", i, turn)
			}
		}
	}
	if l, _ := Profile(solids()[0], 3); len(l) != 4 || vector.Print(l[0]) != "(-r2, -1, 0)" || vector.Print(l[2]) != "(r2, 1, 0)" {
		t.Error("P11.4: example")
	}
}

func TestLevels(t *testing.T) { // P11.5
	for i, s := range solids() {
		plan, _ := Plan(s)
		probes := slices.Clone(plan)
		for x := -5; x <= 5; x++ {
			for y := -5; y <= 5; y++ {
				a, _ := field.Ratio(x, 4)
				b, _ := field.Ratio(y, 4)
				probes = append(probes, api.Vec{X: a, Y: b, Z: num("0")})
			}
		}
		for _, p := range probes {
			lo, hi, e := Level(s, p.X, p.Y)
			if in := polygon.Contains(plan, up, p) <= 0; in != (e == api.OK) || !in && (e != api.ErrNone || lo != (api.Num{}) || hi != (api.Num{})) {
				t.Fatalf("P11.5: %d: %s: %v", i, vector.Print(p), e)
			}
			if e != api.OK {
				continue
			}
			at := func(z api.Num) int { return solid.Contains(s, api.Vec{X: p.X, Y: p.Y, Z: z}) }
			if at(lo) != 0 || at(hi) != 0 || at(mix(lo, hi, 1, 2)) > 0 || at(field.Add(hi, num("1/9"))) != 1 || at(field.Sub(lo, num("1/9"))) != 1 {
				t.Fatalf("P11.5: %d: %s", i, vector.Print(p))
			}
		}
	}
}

func TestHeights(t *testing.T) { // P11.1
	for i, s := range solids() {
		l, e := Heights(s)
		if e != api.OK {
			t.Fatal(e)
		}
		for k, z := range l {
			if k > 0 && field.Cmp(l[k-1], z) >= 0 || !slices.ContainsFunc(s.Verts, func(v api.Vec) bool { return v.Z == z }) {
				t.Errorf("P11.1: %d", i)
			}
		}
		for _, v := range s.Verts {
			if !slices.Contains(l, v.Z) {
				t.Errorf("P11.1: %d", i)
			}
		}
	}
}

func TestErrors(t *testing.T) { // P11.1
	s := solids()[0]
	bad := s
	bad.Faces = nil
	z := num("0")
	_, e1 := At(bad, z)
	_, e2 := Plan(bad)
	_, e3 := Profile(bad, 24)
	_, e4 := Width(bad, 24)
	_, _, e5 := Level(bad, z, z)
	_, e6 := Heights(bad)
	_, e7 := At(s, api.Num{})
	_, _, e8 := Level(s, api.Num{}, z)
	_, _, e9 := Level(s, z, api.Num{})
	for i, e := range []api.Errno{e1, e2, e3, e4, e5, e6, e7, e8, e9} {
		if e != api.ErrArg {
			t.Errorf("P11.1: %d: %v", i+1, e)
		}
	}
	for _, p := range []int{-1, 24} {
		l, e1 := Profile(s, p)
		w, e2 := Width(s, p)
		if e1 != api.ErrRange || e2 != api.ErrRange || l != nil || w != (api.Num{}) {
			t.Errorf("P11.1: position %d", p)
		}
	}
}
