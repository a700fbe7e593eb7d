package proportions

import (
	"slices"
	"testing"

	"culet/api"
	"culet/field"
	"culet/measure"
	"culet/plane"
	"culet/section"
	"culet/solid"
	"culet/vector"
)

func num(s string) api.Num {
	x, _ := field.Parse(s)
	return x
}

func vec(s string) api.Vec {
	v, _ := vector.Parse(s)
	return v
}

func ring(h, v, start, step int, depth string) (l []api.Plane) {
	for i := start; i < 24; i += step {
		p, _ := plane.Of(api.Setting{H: h, V: v, Index: i}, num(depth))
		l = append(l, p)
	}
	return l
}

func flat(v int, depth string) api.Plane {
	p, _ := plane.Of(api.Setting{V: v}, num(depth))
	return p
}

func solids(t *testing.T) (l []api.Solid) {
	block, _ := solid.Block(1)
	long := slices.Clone(block.Planes)
	long[2].D, long[3].D, long[4].D = num("3"), num("1/2"), num("r2")
	for _, planes := range [][]api.Plane{
		block.Planes, long,
		append(ring(2, 1, 0, 6, "4"), flat(-1, "0"), flat(1, "2")),
		slices.Concat(ring(1, -1, 0, 3, "2"), ring(1, 0, 0, 3, "5/3"), ring(1, 1, 0, 3, "2"), []api.Plane{flat(1, "9/10")}),
		slices.Concat(ring(2, -1, 1, 8, "2"), ring(1, 2, 0, 8, "2")),
		append(slices.Clone(block.Planes), api.Plane{N: vector.Of(1, 2, 3), D: num("3")}),
	} {
		s, e := solid.Of(planes)
		if e != api.OK {
			t.Fatal(e)
		}
		l = append(l, s)
	}
	return l
}

func of(t *testing.T, s api.Solid) Proportions {
	t.Helper()
	p, e := Of(s)
	if e != api.OK || !Valid(p) {
		t.Fatalf("P22.1: %v", e)
	}
	return p
}

func TestExamples(t *testing.T) { // P22.1
	l := solids(t)
	want := Proportions{Length: num("4"), Width: num("4"), Height: num("2"), Crown: num("2"), Girdle: num("0"), Pavilion: num("0"), Table: num("2"), Culet: num("4")}
	if p := of(t, l[2]); p != want {
		t.Errorf("P22.1: frustum: %v", p)
	}
	want = Proportions{Length: num("7/2"), Width: num("2"), Height: num("1+r2"), Crown: num("0"), Girdle: num("1+r2"), Pavilion: num("0"), Table: num("2"), Culet: num("2")}
	if p := of(t, l[1]); p != want {
		t.Errorf("P22.1: box: %v", p)
	}
	p := of(t, l[3])
	if p.Width != num("10/3") || p.Girdle != num("2/3") || p.Crown != num("17/30") || field.Sign(p.Table) <= 0 || p.Culet != num("0") || field.Sign(p.Pavilion) <= 0 {
		t.Errorf("P22.1: brilliant: %v", p)
	}
}

func TestSum(t *testing.T) { // P22.2
	for i, s := range solids(t) {
		p := of(t, s)
		x, _ := section.Width(s, 0)
		y, _ := section.Width(s, 6)
		if p.Length != x && p.Length != y || p.Width != x && p.Width != y || field.Add(p.Length, p.Width) != field.Add(x, y) {
			t.Errorf("P22.2: %d: widths", i)
		}
		lo, hi, _ := measure.Extent(s, vector.Of(0, 0, 1))
		if field.Add(field.Add(p.Crown, p.Girdle), p.Pavilion) != p.Height || p.Height != field.Sub(hi, lo) || field.Cmp(p.Length, p.Width) < 0 || field.Cmp(p.Table, p.Width) > 0 || field.Cmp(p.Culet, p.Width) > 0 {
			t.Errorf("P22.2: %d: %v", i, p)
		}
	}
}

func TestScaling(t *testing.T) { // P22.3
	k := num("2/3r3")
	for i, s := range solids(t) {
		scaled, _ := solid.Scale(s, k)
		p, q := of(t, s), of(t, scaled)
		want := Proportions{field.Mul(k, p.Length), field.Mul(k, p.Width), field.Mul(k, p.Height), field.Mul(k, p.Crown), field.Mul(k, p.Girdle), field.Mul(k, p.Pavilion), field.Mul(k, p.Table), field.Mul(k, p.Culet)}
		a, e := Divide(p)
		b, _ := Divide(q)
		f, _ := Fill(s)
		g, _ := Fill(scaled)
		if q != want || a != b || e != api.OK || f != g {
			t.Errorf("P22.3: %d", i)
		}
		if field.Mul(a.Length, p.Width) != p.Length || field.Mul(a.Height, p.Width) != p.Height || field.Mul(a.Crown, p.Width) != p.Crown || field.Mul(a.Girdle, p.Width) != p.Girdle || field.Mul(a.Pavilion, p.Width) != p.Pavilion || field.Mul(a.Table, p.Width) != p.Table || field.Mul(a.Culet, p.Width) != p.Culet {
			t.Errorf("P22.1: %d: ratios", i)
		}
	}
}

func TestMoving(t *testing.T) { // P22.4
	for i, s := range solids(t) {
		shifted, _ := solid.Shift(s, vec("(1, -r2, 7/3)"))
		turned, _ := solid.Move(s, api.Motion{Turn: 6})
		mirrored, _ := solid.Move(s, api.Motion{Turn: 12, Flip: true})
		for k, q := range []api.Solid{shifted, turned, mirrored} {
			if of(t, q) != of(t, s) {
				t.Errorf("P22.4: %d %d", i, k)
			}
		}
	}
}

func TestFill(t *testing.T) { // P22.5
	for i, s := range solids(t) {
		f, e := Fill(s)
		if box := i < 2; e != api.OK || field.Sign(f) <= 0 || field.Cmp(f, num("1")) > 0 || box != (f == num("1")) {
			t.Errorf("P22.5: %d: %s", i, field.Print(f))
		}
	}
	turned, _ := solid.Move(solids(t)[0], api.Motion{Turn: 3})
	if f, _ := Fill(turned); f != num("1/2") {
		t.Errorf("P22.5: turned cube: %s", field.Print(f))
	}
}

func TestPercent(t *testing.T) { // P22.1
	for x, want := range map[string]int{"0": 0, "1/2": 500, "1/3": 333, "-1/3": -334, "r2": 1414, "1000": 1000000, "-1000": -1000000, "0.0009": 0} {
		if n, e := Percent(num(x)); n != want || e != api.OK {
			t.Errorf("P22.1: %s: %d %v", x, n, e)
		}
	}
	for _, x := range []string{"1000.001", "-1000.0001", "99999999999999999999999999"} {
		if n, e := Percent(num(x)); n != 0 || e != api.ErrRange {
			t.Errorf("P22.1: %s: %d %v", x, n, e)
		}
	}
	if n, e := Percent(num("1000.0009")); n != 1000000 || e != api.OK {
		t.Errorf("P22.1: %d %v", n, e)
	}
	if n, e := Percent(api.Num{}); n != 0 || e != api.ErrArg {
		t.Errorf("P22.1: %d %v", n, e)
	}
}

func TestErrors(t *testing.T) { // P22.1
	s := solids(t)[0]
	bad := s
	bad.Faces = nil
	p, e1 := Of(bad)
	f, e2 := Fill(bad)
	if e1 != api.ErrArg || e2 != api.ErrArg || p != (Proportions{}) || f != (api.Num{}) {
		t.Errorf("P22.1: %v %v", e1, e2)
	}
	good := of(t, solids(t)[2])
	for i := range 8 {
		for _, x := range []api.Num{{}, num("-1"), num("0")} {
			q := good
			*[]*api.Num{&q.Length, &q.Width, &q.Height, &q.Crown, &q.Girdle, &q.Pavilion, &q.Table, &q.Culet}[i] = x
			want := q == good || x == num("0") && (i == 0 || i > 5)
			r, e := Divide(q)
			if Valid(q) != want || want != (e == api.OK) || !want && (e != api.ErrArg || r != (Ratios{})) {
				t.Errorf("P22.1: %d %s: %v", i, field.Print(x), e)
			}
		}
	}
}
