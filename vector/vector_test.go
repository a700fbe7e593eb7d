package vector

import (
	"math/rand"
	"strings"
	"testing"

	"culet/api"
	"culet/bigint"
	"culet/field"
	"culet/wheel"
)

func samples() []api.Vec {
	r := rand.New(rand.NewSource(1))
	l := []api.Vec{Of(0, 0, 0), Of(1, 0, 0), Of(0, 1, 0), Of(0, 0, 1), Of(-3, 5, 7)}
	n := func(size int) api.Num {
		x, _ := field.Make([4]api.Int{bigint.Of(r.Intn(size)), bigint.Of(-r.Intn(size)), bigint.Of(r.Intn(size)), bigint.Of(r.Intn(3))}, bigint.Of(1+r.Intn(size)))
		return x
	}
	for _, size := range []int{4, 4, 100, 1 << 30} {
		for range 3 {
			l = append(l, api.Vec{X: n(size), Y: n(size), Z: n(size)})
		}
	}
	return l
}

func TestLinear(t *testing.T) { // P4.1, P4.2
	l := samples()
	k, _ := field.Parse("-2/3+r6")
	for i, v := range l {
		for j, w := range l {
			u := l[(i+3*j)%len(l)]
			switch {
			case Dot(Add(u, v), w) != field.Add(Dot(u, w), Dot(v, w)) || Dot(Scale(v, k), w) != field.Mul(k, Dot(v, w)) || Dot(v, w) != Dot(w, v):
				t.Fatalf("P4.2: Dot: %d %d", i, j)
			case Cross(Add(u, v), w) != Add(Cross(u, w), Cross(v, w)) || Cross(Scale(v, k), w) != Scale(Cross(v, w), k) || Cross(v, w) != Neg(Cross(w, v)):
				t.Fatalf("P4.2: Cross: %d %d", i, j)
			case Sub(v, w) != Add(v, Neg(w)) || !Valid(Cross(v, w)) || !Valid(Add(v, w)):
				t.Fatalf("P4.1: %d %d", i, j)
			}
		}
	}
}

func TestIdentities(t *testing.T) { // P4.3
	l := samples()
	for i, a := range l {
		for j, b := range l {
			c, d := l[(i*3+j)%len(l)], l[(i+5*j)%len(l)]
			x := Cross(a, b)
			if Dot(x, a) != field.Of(0) || Dot(x, b) != field.Of(0) {
				t.Fatalf("P4.3: perpendicular: %d %d", i, j)
			}
			want := field.Sub(field.Mul(Dot(a, c), Dot(b, d)), field.Mul(Dot(a, d), Dot(b, c)))
			if Dot(x, Cross(c, d)) != want {
				t.Fatalf("P4.3: products: %d %d", i, j)
			}
			det := Det(a, b, c)
			if Det(b, a, c) != field.Neg(det) || Det(a, c, b) != field.Neg(det) || Det(c, b, a) != field.Neg(det) || Det(Add(a, c), b, c) != det || Det(a, b, Add(c, b)) != det {
				t.Fatalf("P4.3: determinant: %d %d", i, j)
			}
		}
	}
	if Cross(Of(1, 0, 0), Of(0, 1, 0)) != Of(0, 0, 1) || Det(Of(1, 0, 0), Of(0, 1, 0), Of(0, 0, 1)) != field.Of(1) {
		t.Error("P4.3: orientation")
	}
}

func TestOrder(t *testing.T) { // P4.4
	l := append(samples(), Of(1, 2, 3), Of(1, 2, 4), Of(1, 3, 0), Of(2, 0, 0))
	for i, v := range l {
		for j, w := range l {
			c := Cmp(v, w)
			if c != -Cmp(w, v) || (c == 0) != (v == w) || Cmp(Add(v, l[2]), Add(w, l[2])) != c || Cmp(Add(v, l[7]), Add(w, l[7])) != c {
				t.Fatalf("P4.4: %d %d", i, j)
			}
			u := l[(i+j)%len(l)]
			if c < 0 && Cmp(w, u) < 0 && Cmp(v, u) >= 0 {
				t.Fatalf("P4.4: transitive: %d %d", i, j)
			}
		}
	}
	n := len(l)
	if Cmp(l[n-4], l[n-3]) != -1 || Cmp(l[n-3], l[n-2]) != -1 || Cmp(l[n-2], l[n-1]) != -1 {
		t.Error("P4.4: X, Y, Z")
	}
}

func TestMotions(t *testing.T) { // P4.5
	for i := range 24 {
		for _, v := range samples() {
			for _, w := range samples()[3:8] {
				if wheel.Turn(Cross(v, w), i) != Cross(wheel.Turn(v, i), wheel.Turn(w, i)) {
					t.Fatalf("P4.5: %d", i)
				}
			}
		}
	}
}

func TestTexts(t *testing.T) { // P4.6
	for _, v := range samples() {
		if w, e := Parse(Print(v)); w != v || e != api.OK {
			t.Fatalf("P4.6: %s: %v", Print(v), e)
		}
	}
	if s := Print(api.Vec{X: wheel.Cos(3), Y: wheel.Sin(3), Z: field.Of(0)}); s != "(1/2r2, 1/2r2, 0)" {
		t.Errorf("P4.6: %s", s)
	}
	for _, s := range []string{"", "()", "(1, 2)", "(1, 2, 3, 4)", "(1,2,3)", "1, 2, 3", "(1, 2, 3", "1, 2, 3)", "( 1, 2, 3)", "(1, 2, 3) ", "(1, , 3)", "((1, 2, 3))", "(1,  2, 3)", "("} {
		if v, e := Parse(s); v != (api.Vec{}) || e != api.ErrSyntax {
			t.Errorf("P4.6: %q: %v", s, e)
		}
	}
	long := strings.Repeat("1", 401)
	for s, want := range map[string]api.Errno{"(1/0, x, 3)": api.ErrDiv, "(x, 1/0, 3)": api.ErrSyntax, "(1, 1/0, " + long + ")": api.ErrDiv, "(1, " + long + ", 1/0)": api.ErrLimit} {
		if v, e := Parse(s); v != (api.Vec{}) || e != want {
			t.Errorf("P4.6: %.20q: %v", s, e)
		}
	}
	if v, e := Parse("(2/4, 1.5, -0)"); e != api.OK || Print(v) != "(1/2, 3/2, 0)" {
		t.Error("P4.6: written numbers")
	}
}

func TestInvalid(t *testing.T) { // P4.1
	v, good := Of(1, 2, 3), Of(4, 5, 6)
	for i := range 3 {
		bad := v
		*[]*api.Num{&bad.X, &bad.Y, &bad.Z}[i] = api.Num{}
		zero := api.Vec{}
		if Valid(bad) || Add(bad, good) != zero || Add(good, bad) != zero || Sub(bad, good) != zero || Sub(good, bad) != zero || Neg(bad) != zero || Scale(bad, field.Of(1)) != zero || Cross(bad, good) != zero || Cross(good, bad) != zero {
			t.Errorf("P4.1: %d: vectors", i)
		}
		if Dot(bad, good) != (api.Num{}) || Dot(good, bad) != (api.Num{}) || Det(bad, good, v) != (api.Num{}) || Det(good, bad, v) != (api.Num{}) || Det(good, v, bad) != (api.Num{}) {
			t.Errorf("P4.1: %d: numbers", i)
		}
		if Zero(bad) || Cmp(bad, good) != 0 || Cmp(good, bad) != 0 || Print(bad) != "" {
			t.Errorf("P4.1: %d: others", i)
		}
	}
	if Scale(v, api.Num{}) != (api.Vec{}) || Zero(api.Vec{}) || !Zero(Of(0, 0, 0)) || Zero(Of(0, 0, 1)) {
		t.Error("P4.1: Scale, Zero")
	}
}
