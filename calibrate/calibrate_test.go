package calibrate

import (
	"math"
	"math/rand"
	"slices"
	"testing"

	"culet/api"
	"culet/bigint"
	"culet/field"
	"culet/vector"
	"culet/wheel"
)

func num(s string) api.Num {
	x, _ := field.Parse(s)
	return x
}

func vec(s string) api.Vec {
	v, _ := vector.Parse(s)
	return v
}

func lists() [][]Reading {
	r := rand.New(rand.NewSource(1))
	l := [][]Reading{{{0, 7}, {6, 5}, {12, 3}, {18, 5}}, {{0, 1}, {1, -9}, {2, 10000}}, {{0, 4}, {24, 5}, {5, 0}, {-3, 7}, {math.MinInt, 1}}}
	for _, n := range []int{3, 5, 12, 48} {
		readings := []Reading{}
		for k := range n {
			readings = append(readings, Reading{k + 24*r.Intn(3), r.Intn(400) - 200})
		}
		l = append(l, readings)
	}
	return l
}

func fit(t *testing.T, l []Reading) api.Vec {
	t.Helper()
	m, e := Fit(l)
	if e != api.OK || !vector.Valid(m) {
		t.Fatal(e)
	}
	return m
}

func TestNormal(t *testing.T) { // P52.1, P52.2, P52.3
	for i, l := range lists() {
		m := fit(t, l)
		residuals, e := Residuals(l, m)
		sums := vector.Of(0, 0, 0)
		for k, r := range l {
			p, e2 := Predict(m, r.Index)
			want := field.Add(m.X, field.Add(field.Mul(m.Y, wheel.Cos(r.Index)), field.Mul(m.Z, wheel.Sin(r.Index))))
			if e2 != api.OK || p != want || residuals[k] != field.Sub(field.Of(r.Off), p) {
				t.Errorf("P52.1: %d %d", i, k)
			}
			sums = vector.Add(sums, vector.Scale(api.Vec{X: num("1"), Y: wheel.Cos(r.Index), Z: wheel.Sin(r.Index)}, residuals[k]))
		}
		if e != api.OK || !vector.Zero(sums) {
			t.Errorf("P52.2: %d", i)
		}
		least, _ := Misfit(l, m)
		for _, d := range []string{"(1, 0, 0)", "(-1/100, 0, 0)", "(0, r2, 0)", "(0, 0, -1/7)", "(1, -1, r3)"} {
			if x, e := Misfit(l, vector.Add(m, vec(d))); e != api.OK || field.Cmp(x, least) <= 0 {
				t.Errorf("P52.3: %d: %s", i, d)
			}
		}
	}
	if m := fit(t, lists()[0]); m != vec("(5, 2, 0)") {
		t.Errorf("P52.2: example: %s", vector.Print(m))
	}
}

func TestExact(t *testing.T) { // P52.4, W11
	for _, s := range []string{"(5, 2, 0)", "(0, 0, 0)", "(-7, 12, -3)"} {
		m := vec(s)
		l := []Reading{}
		for i := 0; i < 24; i += 6 {
			p, _ := Predict(m, i)
			n, _ := bigint.Int64(p.C[0])
			l = append(l, Reading{i, n})
		}
		x, e := Misfit(l, m)
		worst, _ := Worst(l)
		if fit(t, l) != m || x != num("0") || e != api.OK || worst != 0 {
			t.Errorf("P52.4: %s", s)
		}
		for _, r := range l {
			if c, _ := Correct(m, r.Index); c != bigint.Of(-r.Off) {
				t.Errorf("W11: %s at %d", s, r.Index)
			}
		}
	}
	r := rand.New(rand.NewSource(2))
	for range 20 {
		m := vector.Of(r.Intn(201)-100, r.Intn(201)-100, r.Intn(201)-100)
		l := []Reading{}
		for i := 0; i < 24; i += 3 {
			c, _ := Correct(m, i)
			n, _ := bigint.Int64(c)
			l = append(l, Reading{i, -n})
		}
		f := fit(t, l)
		residuals, _ := Residuals(l, f)
		for k, x := range l {
			c, _ := Correct(f, x.Index)
			n, _ := bigint.Int64(c)
			d := field.Sub(field.Of(x.Off+n), residuals[k])
			if field.Cmp(field.Abs(d), num("1/2")) > 0 {
				t.Errorf("W11: %s at %d", vector.Print(m), x.Index)
			}
		}
	}
}

func TestTurned(t *testing.T) { // P52.5, P52.6
	for i, l := range lists() {
		m := fit(t, l)
		for _, by := range []int{0, 1, -7, 30, math.MaxInt} {
			turned, e := Turn(l, by)
			want := wheel.Turn(api.Vec{X: m.Y, Y: m.Z, Z: m.X}, by)
			if e != api.OK || fit(t, turned) != (api.Vec{X: want.Z, Y: want.X, Z: want.Y}) {
				t.Errorf("P52.5: %d by %d", i, by)
			}
			for k, r := range turned {
				if r.Off != l[k].Off || r.Index != wheel.Mod(wheel.Mod(l[k].Index)+wheel.Mod(by)) {
					t.Errorf("P52.1: %d by %d: %v", i, by, r)
				}
			}
		}
		if i != 1 {
			more := slices.Clone(l)
			for k := range more {
				more[k].Off += 13
			}
			if fit(t, more) != vector.Add(m, vector.Of(13, 0, 0)) {
				t.Errorf("P52.5: %d: added", i)
			}
		}
		back := slices.Clone(l)
		slices.Reverse(back)
		if fit(t, back) != m {
			t.Errorf("P52.6: %d", i)
		}
	}
}

func TestWorst(t *testing.T) { // P52.1
	for i, l := range lists() {
		w, e := Worst(l)
		residuals, _ := Residuals(l, fit(t, l))
		for k, x := range residuals {
			if c := field.Cmp(field.Abs(x), field.Abs(residuals[w])); e != api.OK || c > 0 || c == 0 && k < w {
				t.Errorf("P52.1: %d: %d, but %d", i, w, k)
			}
		}
	}
}

func TestCorrect(t *testing.T) { // P52.1
	for _, c := range []struct {
		m     string
		index int
		want  int
	}{{"(5, 2, 0)", 0, -7}, {"(1/2, 0, 0)", 3, 0}, {"(-1/2, 0, 0)", 3, 1}, {"(3/2, 0, 0)", 3, -1}, {"(0, 1, 0)", 4, 0}, {"(0, 10, 0)", 3, -7}, {"(0, 0, -10)", 27, 7}, {"(0.4999, 0, 0)", 0, 0}, {"(0.5001, 0, 0)", 0, -1}} {
		if n, e := Correct(vec(c.m), c.index); n != bigint.Of(c.want) || e != api.OK {
			t.Errorf("P52.1: %s: %s %v", c.m, bigint.Print(n), e)
		}
	}
}

func TestErrors(t *testing.T) { // P52.1
	many := make([]Reading, 49)
	if !Valid(many[:48]) || !Valid(nil) || !Valid([]Reading{{math.MinInt, 10000}, {math.MaxInt, -10000}}) {
		t.Error("P52.1: valid")
	}
	zero := vec("(0, 0, 0)")
	for i, bad := range [][]Reading{many, {{0, 10001}}, {{0, 1}, {1, -10001}}} {
		a, e1 := Residuals(bad, zero)
		_, e2 := Misfit(bad, zero)
		_, e3 := Fit(bad)
		_, e4 := Worst(bad)
		b, e5 := Turn(bad, 1)
		for k, e := range []api.Errno{e1, e2, e3, e4, e5} {
			if e != api.ErrArg {
				t.Errorf("P52.1: %d %d: %v", i, k, e)
			}
		}
		if Valid(bad) || a != nil || b != nil {
			t.Errorf("P52.1: %d", i)
		}
	}
	_, e1 := Predict(api.Vec{}, 0)
	_, e2 := Residuals(nil, api.Vec{})
	_, e3 := Misfit(nil, api.Vec{})
	_, e4 := Correct(api.Vec{}, 0)
	if e1 != api.ErrArg || e2 != api.ErrArg || e3 != api.ErrArg || e4 != api.ErrArg {
		t.Errorf("P52.1: %v %v %v %v", e1, e2, e3, e4)
	}
	for i, l := range [][]Reading{nil, {{1, 1}}, {{0, 5}, {12, 5}}, {{0, 5}, {24, 5}, {12, 1}, {-12, 3}}} {
		m, e1 := Fit(l)
		w, e2 := Worst(l)
		if e1 != api.ErrAmbiguous || e2 != api.ErrAmbiguous || m != (api.Vec{}) || w != 0 {
			t.Errorf("P52.1: %d: %v %v", i, e1, e2)
		}
	}
	if x, e := Misfit(nil, zero); x != num("0") || e != api.OK {
		t.Errorf("P52.1: %v", e)
	}
}
