package transfer

import (
	"math"
	"reflect"
	"slices"
	"testing"

	"culet/api"
	"culet/field"
	"culet/measure"
	"culet/plane"
	"culet/settings"
	"culet/solid"
	"culet/vector"
	"culet/wheel"
)

func num(s string) api.Num {
	x, _ := field.Parse(s)
	return x
}

func vec(s string) api.Vec {
	v, _ := vector.Parse(s)
	return v
}

func set(h, v, i int) api.Setting { return api.Setting{H: h, V: v, Index: i} }

func samples() []api.Setting {
	return []api.Setting{set(0, 1, 0), set(4, -3, 5), set(1, 0, 0), set(1, 1, 23), set(0, -1, 0), set(7, 5, 12), set(7, -5, 12), set(1, 0, 9)}
}

func points() []api.Vec {
	return []api.Vec{vec("(0, 0, 0)"), vec("(1, 2, 3)"), vec("(-1/2, r2, -r3)"), vec("(1/3, 0, 1/4)"), vec("(1/2, -1/2, 0)")}
}

func stone(t *testing.T) api.Solid {
	t.Helper()
	l := []api.Plane{}
	for _, s := range []api.Setting{set(0, -1, 0), set(1, 1, 0), set(1, 2, 7), set(2, 1, 13), set(3, -1, 19), set(1, 1, 16)} {
		p, _ := plane.Of(s, num("1"))
		l = append(l, p)
	}
	s, e := solid.Of(l)
	if e != api.OK {
		t.Fatal(e)
	}
	return s
}

func TestTwice(t *testing.T) { // P50.1, P50.2
	for _, v := range points() {
		o := Over(v)
		if Over(o) != v || o.X != v.X || o.Y != field.Neg(v.Y) || o.Z != field.Neg(v.Z) {
			t.Errorf("P50.2: %s", vector.Print(v))
		}
		if vector.Zero(v) {
			continue
		}
		p := api.Plane{N: v, D: num("r6")}
		q, e := Plane(p)
		back, _ := Plane(q)
		if e != api.OK || back != p || q.N != o || q.D != p.D {
			t.Errorf("P50.2: plane %s", vector.Print(v))
		}
	}
	for _, s := range samples() {
		o, e := Setting(s)
		back, _ := Setting(o)
		if e != api.OK || back != s || o.V != -s.V || o.H != s.H || o.Index != (24-s.Index)%24 {
			t.Errorf("P50.2: %v: %v", s, o)
		}
	}
	s := stone(t)
	o, e := Solid(s)
	back, _ := Solid(o)
	if e != api.OK || !reflect.DeepEqual(back, s) {
		t.Errorf("P50.2: solid: %v", e)
	}
	if o, _ := Setting(set(4, -3, 5)); o != set(4, 3, 19) {
		t.Errorf("P50.3: example: %v", o)
	}
}

func TestSettings(t *testing.T) { // P50.3, W12
	for _, s := range samples() {
		for _, d := range []string{"0", "1", "-1/3r2"} {
			p, _ := plane.Of(s, num(d))
			q, _ := Plane(p)
			o, _ := Setting(s)
			if want, _ := plane.Of(o, num(d)); want != q {
				t.Errorf("P50.3: %v", s)
			}
			a, x, _ := settings.Slide(s)
			if b, y, _ := settings.Slide(o); a != b || x != y {
				t.Errorf("W12: %v", s)
			}
		}
		for _, r := range samples() {
			a, _ := Setting(s)
			b, _ := Setting(r)
			if settings.Steeper(s, r) != settings.Steeper(a, b) {
				t.Errorf("W12: %v %v", s, r)
			}
		}
	}
}

func TestWheel(t *testing.T) { // P50.4
	for _, v := range points() {
		for i := -3; i < 27; i++ {
			if Over(wheel.Turn(v, i)) != wheel.Turn(Over(v), -i) {
				t.Errorf("P50.4: %s by %d", vector.Print(v), i)
			}
		}
	}
}

func TestSolid(t *testing.T) { // P50.5, W12
	block, _ := solid.Block(1)
	for _, s := range []api.Solid{stone(t), block} {
		o, e := Solid(s)
		if e != api.OK || !solid.Valid(o) || len(o.Planes) != len(s.Planes) {
			t.Fatal(e)
		}
		for i, p := range s.Planes {
			if q, _ := Plane(p); o.Planes[i] != q {
				t.Errorf("P50.1: plane %d", i)
			}
		}
		for _, v := range append(points(), s.Verts...) {
			if solid.Contains(s, v) != solid.Contains(o, Over(v)) {
				t.Errorf("P50.5: %s", vector.Print(v))
			}
		}
		a, _ := measure.Volume(s)
		if b, _ := measure.Volume(o); a != b {
			t.Error("W12: volume")
		}
	}
}

func TestOffset(t *testing.T) { // P50.6
	any := []int{0, 1, 5, 23, 24, -1, -30, 100, math.MaxInt, math.MinInt}
	for _, i := range any {
		for _, offset := range any {
			k := Index(i, offset)
			if k < 0 || k > 23 || Index(k, offset) != wheel.Mod(i) || Offset(i, k) != wheel.Mod(offset) || wheel.Mod(k+wheel.Mod(i)) != wheel.Mod(offset) {
				t.Errorf("P50.6: %d with %d: %d", i, offset, k)
			}
		}
	}
	if Index(5, 2) != 21 {
		t.Error("P50.6: example")
	}
	for offset := range 24 {
		second := []int{}
		for k, i := range any {
			second = append(second, Index(i, offset)+24*(k-3))
		}
		if got, e := Spread(any, second); got != offset || e != api.OK {
			t.Errorf("P50.6: %d: %d %v", offset, got, e)
		}
		second[7]++
		if got, e := Spread(any, second); got != 0 || e != api.ErrNone {
			t.Errorf("P50.6: %d: %d %v", offset, got, e)
		}
	}
	for i, c := range [][2][]int{{nil, nil}, {{1}, nil}, {nil, {1}}, {{1, 2}, {1}}} {
		if got, e := Spread(c[0], c[1]); got != 0 || e != api.ErrArg {
			t.Errorf("P50.1: %d: %v", i, e)
		}
	}
}

func TestSheet(t *testing.T) { // P50.1
	l := samples()
	for _, offset := range []int{0, 2, -5, 100, math.MinInt} {
		out, e := Sheet(l, offset)
		want := []api.Setting{}
		for _, crown := range []bool{true, false} {
			for _, s := range l {
				if (s.V > 0) != crown {
					continue
				}
				o, _ := Setting(s)
				if s.H > 0 {
					o.Index = wheel.Mod(o.Index + wheel.Mod(offset))
				}
				want = append(want, o)
			}
		}
		if e != api.OK || !slices.Equal(out, want) {
			t.Errorf("P50.1: %d: %v, want %v", offset, out, want)
		}
	}
	if !slices.Equal(l, samples()) {
		t.Error("P50.1: argument changed")
	}
	many := slices.Repeat(l[:1], 101)
	many[0] = api.Setting{}
	out, e1 := Sheet(many, 0)
	_, e2 := Sheet(many[:100], 0)
	long, e3 := Sheet(many[1:], 0)
	if e1 != api.ErrLimit || e2 != api.ErrArg || e3 != api.OK || out != nil || len(long) != 100 {
		t.Errorf("P50.1: %v %v %v", e1, e2, e3)
	}
}

func TestErrors(t *testing.T) { // P50.1
	bad := stone(t)
	bad.Faces = nil
	p, e1 := Plane(api.Plane{})
	s, e2 := Setting(api.Setting{H: 2, V: 2})
	o, e3 := Solid(bad)
	if Over(api.Vec{X: num("1")}) != (api.Vec{}) || e1 != api.ErrArg || e2 != api.ErrArg || e3 != api.ErrArg || p != (api.Plane{}) || s != (api.Setting{}) || len(o.Planes) > 0 {
		t.Errorf("P50.1: %v %v %v", e1, e2, e3)
	}
}
