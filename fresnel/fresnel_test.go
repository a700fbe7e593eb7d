package fresnel

import (
	"math/rand"
	"testing"

	"culet/api"
	"culet/interval"
)

const one = interval.Unit

func iv(lo, hi int) api.Interval { return api.Interval{Lo: lo, Hi: hi} }

func random(r *rand.Rand, lo, hi, width int) api.Interval {
	a := lo + r.Intn(hi-lo+1)
	return iv(a, min(a+r.Intn(width+1), hi))
}

func surface(r *rand.Rand, width int) Surface {
	return Surface{random(r, 0, one, width), random(r, 0, one, width), random(r, one, 4*one, width), random(r, one, 4*one, width)}
}

func part(r *rand.Rand, x api.Interval) api.Interval {
	a, b := x.Lo+r.Intn(x.Hi-x.Lo+1), x.Lo+r.Intn(x.Hi-x.Lo+1)
	return iv(min(a, b), max(a, b))
}

type function func(s Surface) (api.Interval, api.Errno)

func functions() []function {
	return []function{Perpendicular, Parallel, Reflectance, Transmittance}
}

// plain is the formula, operation by operation.
func plain(a, x, b, y api.Interval) (api.Interval, api.Errno) {
	p, _ := interval.Mul(a, x)
	q, _ := interval.Mul(b, y)
	d, _ := interval.Sub(p, q)
	s, _ := interval.Add(p, q)
	z, e := interval.Div(d, s)
	if e != api.OK {
		return api.Interval{}, e
	}
	z, e = interval.Square(z)
	return iv(max(min(z.Lo, one), 0), max(min(z.Hi, one), 0)), e
}

func TestFormulas(t *testing.T) { // P30.1, P30.2
	r := rand.New(rand.NewSource(1))
	for i := range 4000 {
		s := surface(r, []int{0, 100, one / 9, one}[i%4])
		if i%50 == 0 {
			s.Before, s.After = iv(0, 5), iv(0, one/2)
		}
		a, e1 := Perpendicular(s)
		b, e2 := Parallel(s)
		wa, we1 := plain(s.From, s.Before, s.To, s.After)
		wb, we2 := plain(s.From, s.After, s.To, s.Before)
		if e1 != we1 || e2 != we2 || e1 == api.OK && a != wa || e2 == api.OK && b != wb {
			t.Fatalf("P30.1: %v: %v %v", s, e1, e2)
		}
		m, e := Reflectance(s)
		x, e4 := Transmittance(s)
		if e1 != api.OK || e2 != api.OK {
			if e == api.OK || e4 != e || m != (api.Interval{}) || x != m {
				t.Fatalf("P30.1: %v: %v", s, e)
			}
			continue
		}
		sum, _ := interval.Add(a, b)
		want, _ := interval.Mul(sum, iv(one/2, one/2))
		if e != api.OK || m != want || x != iv(one-m.Hi, one-m.Lo) {
			t.Fatalf("P30.1: %v: %v %v", s, m, e)
		}
		both, _ := interval.Add(m, x)
		if m.Lo < 0 || m.Hi > one || x.Lo < 0 || x.Hi > one || !interval.Inside(iv(one, one), both) {
			t.Fatalf("P30.2: %v", s)
		}
	}
}

func TestReversal(t *testing.T) { // P30.3
	r := rand.New(rand.NewSource(2))
	for range 1000 {
		s := surface(r, one/4)
		o := Turn(s)
		if Turn(o) != s || o.Before != s.After || o.To != s.From {
			t.Fatalf("P30.3: %v", s)
		}
		for i, f := range functions() {
			a, e1 := f(s)
			b, e2 := f(o)
			if a != b || e1 != e2 {
				t.Fatalf("P30.3: %d: %v", i, s)
			}
		}
	}
}

func TestStraight(t *testing.T) { // P30.4
	r := rand.New(rand.NewSource(3))
	for i := range 500 {
		s := surface(r, []int{0, one}[i%2])
		s.Before, s.After = iv(one, one), iv(one, one)
		if i%5 == 0 && i%2 == 0 {
			s.To = s.From
		}
		a, e1 := Perpendicular(s)
		b, e2 := Parallel(s)
		c, e3 := Straight(s.From, s.To)
		if a != b || a != c || e1 != api.OK || e2 != api.OK || e3 != api.OK {
			t.Fatalf("P30.4: %v: %v %v %v", s, a, b, c)
		}
		if s.To == s.From && s.To.Lo == s.To.Hi && c != iv(0, 0) {
			t.Fatalf("P30.4: %v: %v", s, c)
		}
	}
	if x, e := Straight(iv(one, one), iv(2*one, 2*one)); x != iv(1864134, 1864136) || e != api.OK {
		t.Errorf("P30.4: example: %v", x)
	}
}

func TestGrazing(t *testing.T) { // P30.5
	for _, after := range []int{one / 100, one / 3, one} {
		s := Surface{iv(0, 0), iv(after, after), iv(one, one), iv(2*one, 2*one)}
		if m, e := Reflectance(s); m != iv(one, one) || e != api.OK {
			t.Errorf("P30.5: %d: %v %v", after, m, e)
		}
		if m, e := Transmittance(s); m != iv(0, 0) || e != api.OK {
			t.Errorf("P30.5: %d: %v %v", after, m, e)
		}
	}
}

func TestInclusion(t *testing.T) { // P30.6
	r := rand.New(rand.NewSource(4))
	good := 0
	for range 2000 {
		s := surface(r, one/3)
		p := Surface{part(r, s.Before), part(r, s.After), part(r, s.From), part(r, s.To)}
		for i, f := range functions() {
			a, e1 := f(s)
			b, e2 := f(p)
			if e1 == api.OK {
				good++
				if e2 != api.OK || !interval.Inside(b, a) {
					t.Fatalf("P30.6: %d: %v", i, s)
				}
			}
		}
	}
	if good < 1000 {
		t.Errorf("P30.6: %d", good)
	}
}

func TestErrors(t *testing.T) { // P30.1
	good := Surface{iv(0, one), iv(one, one), iv(one, 4*one), iv(one, one)}
	if !Valid(good) {
		t.Error("P30.1: valid")
	}
	for i, bad := range []Surface{{iv(-1, one), good.After, good.From, good.To}, {good.Before, iv(0, one+1), good.From, good.To}, {good.Before, good.After, iv(one-1, one), good.To}, {good.Before, good.After, good.From, iv(one, 4*one+1)}, {iv(1, 0), good.After, good.From, good.To}, {good.Before, good.After, iv(2*one, one), good.To}, {}} {
		if Valid(bad) {
			t.Errorf("P30.1: %d", i)
		}
		for k, f := range functions() {
			if x, e := f(bad); x != (api.Interval{}) || e != api.ErrArg {
				t.Errorf("P30.1: %d %d: %v", i, k, e)
			}
		}
		_, e1 := Straight(bad.From, bad.To)
		if wrong := bad.From != good.From || bad.To != good.To; wrong != (e1 == api.ErrArg) {
			t.Errorf("P30.1: Straight %d: %v", i, e1)
		}
	}
	zero := Surface{iv(0, one/2), iv(0, one/2), iv(one, one), iv(one, one)}
	for k, f := range functions() {
		if x, e := f(zero); x != (api.Interval{}) || e != api.ErrDiv {
			t.Errorf("P30.1: %d: %v", k, e)
		}
	}
}
