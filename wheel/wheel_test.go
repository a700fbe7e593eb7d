package wheel

import (
	"math"
	"slices"
	"testing"

	"culet/api"
	"culet/field"
)

func num(t *testing.T, s string) api.Num {
	t.Helper()
	x, e := field.Parse(s)
	if e != api.OK {
		t.Fatal(s, e)
	}
	return x
}

func all() []api.Motion {
	l, _ := Motions(24, true)
	return l
}

func samples(t *testing.T) []api.Vec {
	return []api.Vec{
		{X: field.Of(1), Y: field.Of(0), Z: field.Of(0)},
		{X: field.Of(0), Y: field.Of(1), Z: field.Of(5)},
		{X: num(t, "1/3r2-2"), Y: num(t, "r6+1/7"), Z: num(t, "-r3")},
	}
}

func dot(v, w api.Vec) api.Num {
	return field.Add(field.Mul(v.X, w.X), field.Add(field.Mul(v.Y, w.Y), field.Mul(v.Z, w.Z)))
}

// turned has the z coordinate of a vector product.
func area(v, w api.Vec) api.Num {
	return field.Sub(field.Mul(v.X, w.Y), field.Mul(v.Y, w.X))
}

func TestMod(t *testing.T) { // P3.1
	for i, want := range map[int]int{0: 0, 23: 23, 24: 0, -1: 23, -24: 0, -25: 23, 49: 1, math.MaxInt: math.MaxInt % 24, math.MinInt: 24 + math.MinInt%24} {
		if Mod(i) != want {
			t.Errorf("P3.1: Mod(%d) = %d", i, Mod(i))
		}
	}
}

func TestCircle(t *testing.T) { // P3.2
	for i, want := range []string{"1", "1/4r2+1/4r6", "1/2r3", "1/2r2", "1/2", "-1/4r2+1/4r6", "0", "1/4r2-1/4r6", "-1/2", "-1/2r2", "-1/2r3", "-1/4r2-1/4r6", "-1"} {
		if field.Print(Cos(i)) != want || Cos(-i) != Cos(i) || Cos(24-i) != Cos(i) {
			t.Errorf("P3.2: cosine of %d: %s", i, field.Print(Cos(i)))
		}
	}
	for i := range 24 {
		c, s := Cos(i), Sin(i)
		if field.Add(field.Mul(c, c), field.Mul(s, s)) != field.Of(1) || Sin(i+6) != c || Sin(i-48) != s || Cos(i+24) != c {
			t.Errorf("P3.2: %d", i)
		}
		for k := range 24 {
			if Cos(i+k) != field.Sub(field.Mul(c, Cos(k)), field.Mul(s, Sin(k))) || Sin(i+k) != field.Add(field.Mul(s, Cos(k)), field.Mul(c, Sin(k))) {
				t.Errorf("P3.2: %d + %d", i, k)
			}
		}
	}
	if Cos(math.MinInt) != Cos(Mod(math.MinInt)) || Sin(math.MinInt) != Sin(Mod(math.MinInt)) || Sin(math.MaxInt) != Sin(Mod(math.MaxInt)) {
		t.Error("P3.1: any integer")
	}
}

func TestGroup(t *testing.T) { // P3.3
	l := samples(t)
	for i, a := range all() {
		if Compose(a, Inverse(a)) != (api.Motion{}) || Compose(Inverse(a), a) != (api.Motion{}) {
			t.Errorf("P3.3: inverse of %v", a)
		}
		for k, b := range all() {
			c := all()[(i*7+k*5)%48]
			if Compose(Compose(a, b), c) != Compose(a, Compose(b, c)) {
				t.Fatalf("P3.3: %v %v %v", a, b, c)
			}
			if v := l[(i+k)%len(l)]; Move(v, Compose(a, b)) != Move(Move(v, a), b) {
				t.Fatalf("P3.3: both: %v %v", a, b)
			}
		}
	}
}

func TestLengths(t *testing.T) { // P3.4
	for _, m := range all() {
		for _, v := range samples(t) {
			for _, w := range samples(t) {
				mv, mw := Move(v, m), Move(w, m)
				turned := area(v, w)
				if m.Flip {
					turned = field.Neg(turned)
				}
				if dot(mv, mw) != dot(v, w) || mv.Z != v.Z || area(mv, mw) != turned {
					t.Fatalf("P3.4: %v", m)
				}
			}
		}
	}
}

func TestPositions(t *testing.T) { // P3.5
	for _, m := range all() {
		for i := -30; i < 30; i++ {
			k := Index(m, i)
			v := api.Vec{X: Cos(i), Y: Sin(i), Z: field.Of(0)}
			if k < 0 || k > 23 || Move(v, m) != (api.Vec{X: Cos(k), Y: Sin(k), Z: field.Of(0)}) {
				t.Fatalf("P3.5: %v %d", m, i)
			}
			if Turn(v, i) != Move(v, api.Motion{Turn: Mod(i)}) {
				t.Fatalf("P3.5: Turn by %d", i)
			}
		}
		if Index(m, math.MinInt) != Index(m, Mod(math.MinInt)) || Index(m, math.MaxInt) != Index(m, Mod(math.MaxInt)) {
			t.Errorf("P3.1: %v: any integer", m)
		}
	}
}

func TestOrbits(t *testing.T) { // P3.6
	for order := -2; order < 30; order++ {
		for _, mirror := range []bool{false, true} {
			motions, e := Motions(order, mirror)
			right := order > 0 && 24%order == 0
			if right != (e == api.OK) || !right && (e != api.ErrRange || motions != nil) {
				t.Fatalf("P3.1: Motions(%d): %v", order, e)
			}
			if !right {
				if o, e := Orbit(0, order, mirror); e != api.ErrRange || o != nil {
					t.Errorf("P3.1: Orbit of order %d: %v", order, e)
				}
				continue
			}
			for i := -25; i < 50; i++ {
				o, _ := Orbit(i, order, mirror)
				if len(motions)%len(o) != 0 || !slices.IsSorted(o) || !slices.Contains(o, Mod(i)) {
					t.Fatalf("P3.6: %d of order %d: %v", i, order, o)
				}
				for _, m := range motions {
					image := []int{}
					for _, k := range o {
						image = append(image, Index(m, k))
					}
					slices.Sort(image)
					if !slices.Equal(image, o) {
						t.Fatalf("P3.6: %v of %v", m, o)
					}
				}
			}
		}
	}
	want := []api.Motion{{Turn: 0}, {Turn: 12}, {Turn: 0, Flip: true}, {Turn: 12, Flip: true}}
	if l, _ := Motions(2, true); !slices.Equal(l, want) {
		t.Errorf("P3.1: %v", l)
	}
	if o, _ := Orbit(1, 8, true); !slices.Equal(o, []int{1, 2, 4, 5, 7, 8, 10, 11, 13, 14, 16, 17, 19, 20, 22, 23}) {
		t.Errorf("P3.6: %v", o)
	}
	if o, _ := Orbit(4, 1, false); !slices.Equal(o, []int{4}) {
		t.Errorf("P3.6: %v", o)
	}
}

func TestInvalid(t *testing.T) { // P3.1
	v := samples(t)[0]
	for _, m := range []api.Motion{{Turn: -1}, {Turn: 24}, {Turn: 24, Flip: true}, {Turn: math.MinInt}} {
		if Valid(m) || Move(v, m) != (api.Vec{}) || Index(m, 3) != 0 || Compose(m, api.Motion{Turn: 1}) != (api.Motion{}) || Compose(api.Motion{Turn: 1}, m) != (api.Motion{}) || Inverse(m) != (api.Motion{}) {
			t.Errorf("P3.1: %v", m)
		}
	}
	for i := range 3 {
		w := v
		*[]*api.Num{&w.X, &w.Y, &w.Z}[i] = api.Num{}
		if Turn(w, 0) != (api.Vec{}) || Turn(w, 5) != (api.Vec{}) || Flip(w) != (api.Vec{}) || Move(w, api.Motion{}) != (api.Vec{}) || Move(w, api.Motion{Turn: 2, Flip: true}) != (api.Vec{}) {
			t.Errorf("P3.1: vector %d", i)
		}
	}
	for _, m := range all() {
		if !Valid(m) {
			t.Errorf("P3.1: %v", m)
		}
	}
}
