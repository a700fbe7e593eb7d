package plane

import (
	"testing"

	"culet/api"
	"culet/field"
	"culet/vector"
	"culet/wheel"
)

func num(s string) api.Num {
	x, _ := field.Parse(s)
	return x
}

func vec(s string) api.Vec {
	v, _ := vector.Parse(s)
	return v
}

func of(n, d string) api.Plane { return api.Plane{N: vec(n), D: num(d)} }

func planes() []api.Plane {
	return []api.Plane{of("(1, 0, 0)", "1"), of("(0, -2, 0)", "3"), of("(0, 0, 1/2)", "-1"), of("(4, 0, 3)", "5"), of("(r2, -r3, 1)", "1/2r6"), of("(-1/7, 2, 3-r2)", "0"), of("(1, 1, 1)", "r2")}
}

func points() []api.Vec {
	return []api.Vec{vec("(0, 0, 0)"), vec("(1, 2, 3)"), vec("(-1, 1/2, r2)"), vec("(r6, -r3, 1/3)"), vec("(1, 0, 7)"), vec("(5, 5, 5)")}
}

func settings() []api.Setting {
	l := []api.Setting{{H: 0, V: 1}, {H: 0, V: -1}}
	for i := range 24 {
		for _, a := range [][2]int{{1, 0}, {4, 3}, {1, -1}, {1000, 999}, {7, -1000}, {3, 1000}, {1, 1}} {
			l = append(l, api.Setting{H: a[0], V: a[1], Index: i})
		}
	}
	return l
}

func TestValid(t *testing.T) { // P5.1
	for _, s := range settings() {
		if !ValidSetting(s) {
			t.Errorf("P5.1: %v", s)
		}
	}
	for _, s := range []api.Setting{{}, {H: -1, V: 1}, {H: 1001, V: 1}, {H: 1, V: 1001}, {H: 1, V: -1001}, {H: 2, V: 4}, {H: 2}, {V: 2}, {H: 1, Index: 24}, {H: 1, Index: -1}, {V: 1, Index: 1}, {H: 1, V: -1 << 63}} {
		if ValidSetting(s) {
			t.Errorf("P5.1: %v", s)
		}
		if p, e := Of(s, num("1")); p != (api.Plane{}) || e != api.ErrAngle {
			t.Errorf("P5.1: %v: %v", s, e)
		}
		if p, e := Of(s, api.Num{}); p != (api.Plane{}) || e != api.ErrArg {
			t.Errorf("P5.1: %v: %v", s, e)
		}
	}
	bad := []api.Plane{{}, {N: vector.Of(0, 0, 0), D: num("1")}, {N: vector.Of(1, 0, 0)}, {N: api.Vec{X: num("1")}, D: num("1")}}
	good, v, m := planes()[0], vector.Of(1, 2, 3), api.Motion{Turn: 1}
	for i, p := range bad {
		_, _, e1 := Setting(p)
		_, e2 := Meet(p, good, good)
		_, e3 := Meet(good, p, good)
		_, e4 := Meet(good, good, p)
		_, e5 := Canonical(p)
		_, e6 := Opposite(p)
		_, e7 := Move(p, m)
		_, e8 := Shift(p, v)
		_, e9 := Scale(p, num("-1"))
		for k, e := range []api.Errno{e1, e2, e3, e4, e5, e6, e7, e8, e9} {
			if e != api.ErrArg {
				t.Errorf("P5.1: %d: %d: %v", i, k, e)
			}
		}
		if Valid(p) || Side(p, v) != 0 || Same(p, p) || Same(good, p) {
			t.Errorf("P5.1: %d", i)
		}
	}
	_, e1 := Move(good, api.Motion{Turn: 24})
	_, e2 := Shift(good, api.Vec{})
	_, e3 := Scale(good, api.Num{})
	_, e4 := Through(api.Vec{}, v, v)
	_, e5 := Through(v, api.Vec{}, v)
	_, e6 := Through(v, v, api.Vec{})
	for k, e := range []api.Errno{e1, e2, e3, e4, e5, e6} {
		if e != api.ErrArg {
			t.Errorf("P5.1: %d: %v", k, e)
		}
	}
	for _, k := range []string{"0", "-1", "1-r2"} {
		if p, e := Scale(good, num(k)); p != (api.Plane{}) || e != api.ErrRange {
			t.Errorf("P5.1: scale %s: %v", k, e)
		}
	}
	if Side(good, api.Vec{}) != 0 || Side(good, vec("(2, 0, 0)")) != 1 || Side(good, vec("(0, 9, 9)")) != -1 || Side(good, vec("(1, 9, 9)")) != 0 {
		t.Error("P5.1: Side")
	}
}

func TestPoints(t *testing.T) { // P5.2
	l := planes()
	for i, a := range l {
		for j, b := range l {
			for k, c := range l {
				v, e := Meet(a, b, c)
				if singular := field.Sign(vector.Det(a.N, b.N, c.N)) == 0; singular != (e == api.ErrParallel) || singular && v != (api.Vec{}) {
					t.Fatalf("P5.2: %d %d %d: %v", i, j, k, e)
				}
				if e == api.OK && (!vector.Valid(v) || Side(a, v) != 0 || Side(b, v) != 0 || Side(c, v) != 0) {
					t.Fatalf("P5.2: %d %d %d", i, j, k)
				}
			}
		}
	}
	ps := points()
	for _, p := range ps {
		for _, q := range ps {
			for _, r := range ps {
				plane, e := Through(p, q, r)
				line := vector.Zero(vector.Cross(vector.Sub(q, p), vector.Sub(r, p)))
				if line != (e == api.ErrParallel) {
					t.Fatalf("P5.2: Through: %v", e)
				}
				if e != api.OK {
					continue
				}
				if Side(plane, p) != 0 || Side(plane, q) != 0 || Side(plane, r) != 0 {
					t.Fatal("P5.2: Through")
				}
				for _, s := range ps {
					if Side(plane, s) != field.Sign(vector.Det(vector.Sub(q, p), vector.Sub(r, p), vector.Sub(s, p))) {
						t.Fatal("P5.2: side")
					}
				}
			}
		}
	}
}

func TestSettings(t *testing.T) { // P5.3
	for _, s := range settings() {
		for _, d := range []string{"0", "5", "-1/3r2", "r6-2"} {
			p, e := Of(s, num(d))
			if e != api.OK || !Valid(p) {
				t.Fatalf("P5.3: %v: %v", s, e)
			}
			factor := num("3/7r2")
			scaled := api.Plane{N: vector.Scale(p.N, factor), D: field.Mul(p.D, factor)}
			canonical, _ := Canonical(p)
			for k, q := range []api.Plane{p, scaled, canonical} {
				if got, depth, e := Setting(q); got != s || depth != num(d) || e != api.OK {
					t.Fatalf("P5.3: %d: %v: %v %s %v", k, s, got, field.Print(depth), e)
				}
			}
		}
	}
	for _, n := range []string{"(1, 2, 0)", "(1, 0, r2)", "(1, 0, 1001)", "(1001, 0, 1)", "(1, 0, -1/1001)", "(1, r2, 1)", "(10000000000000000000000, 0, 1)", "(-1, 0, r3)"} {
		if s, d, e := Setting(of(n, "1")); s != (api.Setting{}) || d != (api.Num{}) || e != api.ErrNone {
			t.Errorf("P5.3: %s: %v %v", n, s, e)
		}
	}
	if s, d, e := Setting(of("(0, 0, -r2)", "4")); s != (api.Setting{V: -1}) || d != num("2r2") || e != api.OK {
		t.Errorf("P5.3: %v %v", s, e)
	}
}

func TestMoved(t *testing.T) { // P5.4
	k, shift := num("2/3r3"), vec("(1, -r2, 1/5)")
	for i, p := range planes() {
		for _, v := range points() {
			side := Side(p, v)
			for turn := range 24 {
				m := api.Motion{Turn: turn, Flip: turn%2 == 0}
				moved, e := Move(p, m)
				if e != api.OK || !Valid(moved) || Side(moved, wheel.Move(v, m)) != side {
					t.Fatalf("P5.4: %d: %v", i, m)
				}
			}
			shifted, _ := Shift(p, shift)
			scaled, _ := Scale(p, k)
			if Side(shifted, vector.Add(v, shift)) != side || Side(scaled, vector.Scale(v, k)) != side || shifted.N != p.N || scaled.N != p.N {
				t.Fatalf("P5.4: %d", i)
			}
		}
	}
}

func TestCanonical(t *testing.T) { // P5.5
	for i, p := range planes() {
		c, e := Canonical(p)
		for _, f := range []string{"2", "1/3r6", "7+r2"} {
			q := api.Plane{N: vector.Scale(p.N, num(f)), D: field.Mul(p.D, num(f))}
			if d, _ := Canonical(q); d != c || e != api.OK || !Same(p, q) {
				t.Fatalf("P5.5: %d: %s", i, f)
			}
		}
		o, _ := Opposite(p)
		oc, _ := Canonical(o)
		co, _ := Opposite(c)
		if oc != co || Same(o, p) || o.N != vector.Neg(p.N) || o.D != field.Neg(p.D) {
			t.Fatalf("P5.5: %d: opposite", i)
		}
		for k, q := range planes() {
			if Same(p, q) != (i == k) {
				t.Fatalf("P5.5: %d %d", i, k)
			}
		}
	}
	if Same(of("(1, 1, 0)", "1"), of("(1, 1, 0)", "2")) {
		t.Error("P5.5: other depth")
	}
	p, _ := Of(api.Setting{H: 4, V: 3}, num("5"))
	if c, _ := Canonical(p); p != of("(4, 0, 3)", "5") || c != of("(1, 0, 3/4)", "5/4") {
		t.Error("P5.5: example")
	}
}
