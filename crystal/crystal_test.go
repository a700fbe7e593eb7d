package crystal

import (
	"slices"
	"testing"

	"culet/api"
	"culet/field"
	"culet/measure"
	"culet/plane"
	"culet/separate"
	"culet/solid"
	"culet/vector"
)

func num(s string) api.Num {
	x, _ := field.Parse(s)
	return x
}

func vec(s string) api.Vec {
	v, _ := vector.Parse(s)
	return v
}

func of(n, d string) api.Plane { return api.Plane{N: vec(n), D: num(d)} }

func block(half int) Crystal {
	s, _ := solid.Block(half)
	return Crystal{"rough", "quartz", s.Planes}
}

func crystals() []Crystal {
	odd := block(2)
	odd.Planes = append(odd.Planes, of("(1, 1, 1)", "9"), of("(1, 2, -1)", "3"), odd.Planes[0], of("(1, r2, 0)", "r6"))
	return []Crystal{block(1), odd, {"t", "m", []api.Plane{of("(1, 1, 1)", "1"), of("(-1, 0, 0)", "0"), of("(0, -1, 0)", "0"), of("(0, 0, -1)", "1/3")}}}
}

func invalid() []Crystal {
	return []Crystal{{}, {"order", "m", block(1).Planes}, {"c", "1", block(1).Planes}, {"c", "m", block(1).Planes[1:]}, {"c", "m", append(block(1).Planes, api.Plane{})}}
}

func TestFaces(t *testing.T) { // P41.2
	points := []api.Vec{vec("(0, 0, 0)"), vec("(1, 2, 3)"), vec("(-1, r2, 0)"), vec("(2, 4, 6)"), vec("(1/3, -r3, 5)")}
	for _, p := range points {
		for _, q := range points {
			for _, r := range points {
				for _, in := range points {
					f, e := Face(p, q, r, in)
					thru, te := plane.Through(p, q, r)
					want := api.OK
					if te != api.OK {
						want = api.ErrParallel
					} else if plane.Side(thru, in) == 0 {
						want = api.ErrRange
					}
					o, _ := plane.Opposite(thru)
					if e != want || e != api.OK && f != (api.Plane{}) {
						t.Fatalf("P41.2: %v, want %v", e, want)
					}
					if e == api.OK && (plane.Side(f, p) != 0 || plane.Side(f, q) != 0 || plane.Side(f, r) != 0 || plane.Side(f, in) != -1 || f != thru && f != o) {
						t.Fatal("P41.2")
					}
				}
			}
		}
	}
	for i := range 4 {
		l := slices.Clone(points[:4])
		l[i] = api.Vec{}
		if _, e := Face(l[0], l[1], l[2], l[3]); e != api.ErrArg {
			t.Errorf("P41.1: %d: %v", i, e)
		}
	}
}

func TestMeasured(t *testing.T) { // P41.1, P41.6
	inside := vec("(1/5, 1/4, 1/6)")
	x, y, z, o := vec("(1, 0, 0)"), vec("(0, 1, 0)"), vec("(0, 0, 1)"), vec("(0, 0, 0)")
	points := [][3]api.Vec{{x, y, z}, {o, x, y}, {o, y, z}, {x, z, o}}
	c, n, e := Measured("c", "m", points, inside)
	s, e2 := Solid(c)
	if n != 4 || e != api.OK || e2 != api.OK || !Valid(c) || solid.Contains(s, inside) != -1 || c.Name != "c" || c.Material != "m" || len(s.Verts) != 4 {
		t.Fatalf("P41.6: %d %v", n, e)
	}
	for i, k := range []struct {
		name   string
		points [][3]api.Vec
		inside api.Vec
		at     int
		e      api.Errno
	}{
		{"at", points, inside, 0, api.ErrArg}, {"c", nil, inside, 0, api.ErrOpen}, {"c", points[:3], inside, 3, api.ErrOpen}, {"c", append(slices.Clone(points), [3]api.Vec{x, x, y}), inside, 4, api.ErrParallel}, {"c", points, vec("(0, 1/3, 1/3)"), 2, api.ErrRange}, {"c", points, api.Vec{}, 0, api.ErrArg}, {"c", append(slices.Clone(points[:1]), [3]api.Vec{x, {}, y}), inside, 1, api.ErrArg}, {"c", slices.Repeat(points, 26), inside, 104, api.ErrLimit},
	} {
		c, at, e := Measured(k.name, "m", k.points, k.inside)
		if at != k.at || e != k.e || c.Name != "" || c.Planes != nil {
			t.Errorf("P41.1: %d: %d %v", i, at, e)
		}
	}
}

func TestWeight(t *testing.T) { // P41.1
	for i, c := range crystals() {
		s, _ := Solid(c)
		v, _ := measure.Volume(s)
		for _, d := range []int{1, 999, 4000, 30000} {
			w, e := Weight(c, d)
			exact, _ := field.Ratio(d, 1000)
			x := field.Mul(v, exact)
			if e != api.OK || field.Cmp(field.Of(w), x) > 0 || field.Cmp(field.Of(w+1), x) <= 0 {
				t.Errorf("P41.1: %d: %d %v", i, w, e)
			}
		}
		for _, d := range []int{0, 30001} {
			if w, e := Weight(c, d); w != 0 || e != api.ErrRange {
				t.Errorf("P41.1: %d: %v", i, e)
			}
		}
	}
	if w, _ := Weight(block(1), 4000); w != 32 {
		t.Errorf("P41.1: example: %d", w)
	}
	if w, e := Weight(block(500), 1000); w != 1000000000 || e != api.OK {
		t.Errorf("P41.1: %d %v", w, e)
	}
	if w, e := Weight(block(500), 1001); w != 0 || e != api.ErrLimit {
		t.Errorf("P41.1: %d %v", w, e)
	}
	if w, e := Weight(block(1000000), 30000); w != 0 || e != api.ErrLimit {
		t.Errorf("P41.1: %d %v", w, e)
	}
}

func TestBox(t *testing.T) { // P41.3
	for i, c := range crystals() {
		lo, hi, e := Box(c)
		s, _ := Solid(c)
		touched := [6]bool{}
		for _, v := range s.Verts {
			for k, x := range []api.Num{v.X, v.Y, v.Z} {
				a, b := []api.Num{lo.X, lo.Y, lo.Z}[k], []api.Num{hi.X, hi.Y, hi.Z}[k]
				if e != api.OK || field.Cmp(x, a) < 0 || field.Cmp(x, b) > 0 {
					t.Errorf("P41.3: %d", i)
				}
				touched[2*k] = touched[2*k] || x == a
				touched[2*k+1] = touched[2*k+1] || x == b
			}
		}
		if touched != [6]bool{true, true, true, true, true, true} {
			t.Errorf("P41.3: %d: %v", i, touched)
		}
	}
}

func TestTrim(t *testing.T) { // P41.4
	for i, c := range crystals() {
		l, e := Redundant(c)
		out, e2 := Trim(c)
		a, _ := Solid(c)
		b, _ := Solid(out)
		rest, _ := Redundant(out)
		if e != api.OK || e2 != api.OK || !solid.Equal(a, b) || len(rest) != 0 || len(out.Planes)+len(l) != len(c.Planes) || out.Name != c.Name || out.Material != c.Material {
			t.Errorf("P41.4: %d: %v", i, l)
		}
		for _, k := range l {
			if slices.ContainsFunc(a.Faces, func(f api.Face) bool { return f.Plane == k }) {
				t.Errorf("P41.4: %d: %d has a face", i, k)
			}
		}
	}
	if l, _ := Redundant(crystals()[1]); !slices.Equal(l, []int{6, 8}) {
		t.Errorf("P41.4: %v", l)
	}
}

func TestCleave(t *testing.T) { // P41.5
	for i, c := range crystals() {
		s, _ := Solid(c)
		v, _ := measure.Volume(s)
		for k, p := range []api.Plane{of("(0, 0, 1)", "0"), of("(1, r2, -1)", "1/5"), of("(1, 0, 0)", "1/7"), of("(0, 0, 1)", "50"), of("(0, 0, -1)", "-50")} {
			a, b, e := Cleave(c, p)
			if k > 2 {
				if e != api.ErrEmpty || a.Name != "" || b.Name != "" {
					t.Errorf("P41.5: %d %d: %v", i, k, e)
				}
				continue
			}
			x, e1 := Solid(a)
			y, e2 := Solid(b)
			if e != api.OK || e1 != api.OK || e2 != api.OK {
				t.Fatalf("P41.5: %d %d: %v %v %v", i, k, e, e1, e2)
			}
			vx, _ := measure.Volume(x)
			vy, _ := measure.Volume(y)
			o, _ := plane.Opposite(p)
			if field.Add(vx, vy) != v || !separate.Disjoint(x, y) || a.Planes[len(a.Planes)-1] != p || b.Planes[len(b.Planes)-1] != o || a.Material != c.Material || b.Name != c.Name {
				t.Errorf("P41.5: %d %d", i, k)
			}
			for _, w := range s.Verts {
				if solid.Contains(x, w) > 0 && solid.Contains(y, w) > 0 {
					t.Errorf("P41.5: %d %d: vertex", i, k)
				}
			}
		}
		face, _ := Trim(c)
		if _, _, e := Cleave(c, face.Planes[0]); e != api.ErrEmpty {
			t.Errorf("P41.5: %d: %v", i, e)
		}
	}
	a, b, _ := Cleave(block(1), of("(0, 0, 1)", "0"))
	wa, _ := Weight(a, 4000)
	wb, _ := Weight(b, 4000)
	if wa != 16 || wb != 16 {
		t.Errorf("P41.5: example: %d %d", wa, wb)
	}
	full := block(1)
	full.Planes = slices.Repeat(full.Planes, 17)[:100]
	if _, _, e := Cleave(full, of("(0, 0, 1)", "0")); e != api.ErrLimit {
		t.Errorf("P41.1: %v", e)
	}
	if _, _, e := Cleave(full, of("(0, 0, 1)", "9")); e != api.ErrEmpty {
		t.Errorf("P41.1: %v", e)
	}
}

func TestErrors(t *testing.T) { // P41.1
	for i, c := range invalid() {
		_, e1 := Weight(c, 0)
		_, _, e2 := Box(c)
		_, e3 := Redundant(c)
		_, e4 := Trim(c)
		_, _, e5 := Cleave(c, of("(0, 0, 1)", "0"))
		for k, e := range []api.Errno{e1, e2, e3, e4, e5} {
			if e != api.ErrArg {
				t.Errorf("P41.1: %d %d: %v", i, k, e)
			}
		}
		want := api.ErrArg
		if i == 3 {
			want = api.ErrOpen
		}
		if s, e := Solid(c); Valid(c) || e != want || len(s.Planes) > 0 {
			t.Errorf("P41.1: %d: %v", i, e)
		}
	}
	if _, _, e := Cleave(block(1), api.Plane{}); e != api.ErrArg {
		t.Errorf("P41.1: %v", e)
	}
}
