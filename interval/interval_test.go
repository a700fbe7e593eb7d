package interval

import (
	"math"
	"math/big"
	"math/rand"
	"testing"

	"culet/api"
	"culet/field"
)

func num(s string) api.Num {
	x, _ := field.Parse(s)
	return x
}

func iv(lo, hi int) api.Interval { return api.Interval{Lo: lo, Hi: hi} }

func samples() []api.Interval {
	r := rand.New(rand.NewSource(1))
	l := []api.Interval{iv(0, 0), iv(1, 1), iv(-1, 1), iv(Unit, Unit), iv(3*Unit, 3*Unit), iv(-Unit, Unit/2), iv(-Max, Max), iv(Max, Max), iv(-Max, -Max), iv(0, 5), iv(-5, 0), iv(-7, -3)}
	for _, size := range []int{10, Unit, 4 * Unit, Max} {
		for range 8 {
			a, b := r.Intn(2*size+1)-size, r.Intn(2*size+1)-size
			l = append(l, iv(min(a, b), max(a, b)))
		}
	}
	return l
}

func rat(units int) *big.Rat { return big.NewRat(int64(units), Unit) }

// floor returns the greatest number of units that is at most x.
func floor(x *big.Rat) *big.Int {
	n := new(big.Int).Mul(x.Num(), big.NewInt(Unit))
	return new(big.Int).Div(n, x.Denom())
}

// enclose is the definition of the enclosure of some values.
func enclose(l ...*big.Rat) (api.Interval, api.Errno) {
	lo, hi := l[0], l[0]
	for _, x := range l {
		if x.Cmp(lo) < 0 {
			lo = x
		}
		if x.Cmp(hi) > 0 {
			hi = x
		}
	}
	a, b := floor(lo), new(big.Int).Neg(floor(new(big.Rat).Neg(hi)))
	if a.Cmp(big.NewInt(-Max)) < 0 || b.Cmp(big.NewInt(Max)) > 0 {
		return api.Interval{}, api.ErrLimit
	}
	return iv(int(a.Int64()), int(b.Int64())), api.OK
}

func check(t *testing.T, name string, x, y, got api.Interval, e api.Errno, want api.Interval, we api.Errno) {
	t.Helper()
	if got != want || e != we {
		t.Fatalf("P27.1: %s %v %v: %v %v, want %v %v", name, x, y, got, e, want, we)
	}
}

func TestOperations(t *testing.T) { // P27.1, P27.2, P27.3
	for _, x := range samples() {
		n, e := Neg(x)
		check(t, "Neg", x, x, n, e, iv(-x.Hi, -x.Lo), api.OK)
		squares := []*big.Rat{new(big.Rat).Mul(rat(x.Lo), rat(x.Lo)), new(big.Rat).Mul(rat(x.Hi), rat(x.Hi))}
		if x.Lo <= 0 && x.Hi >= 0 {
			squares = append(squares, new(big.Rat))
		}
		s, e := Square(x)
		want, we := enclose(squares...)
		check(t, "Square", x, x, s, e, want, we)
		checkRoot(t, x)
		for _, y := range samples() {
			var sums, products, quotients, differences []*big.Rat
			zero := y.Lo <= 0 && y.Hi >= 0
			for _, a := range []int{x.Lo, x.Hi} {
				for _, b := range []int{y.Lo, y.Hi} {
					sums = append(sums, new(big.Rat).Add(rat(a), rat(b)))
					differences = append(differences, new(big.Rat).Sub(rat(a), rat(b)))
					products = append(products, new(big.Rat).Mul(rat(a), rat(b)))
					if !zero {
						quotients = append(quotients, new(big.Rat).Quo(rat(a), rat(b)))
					}
				}
			}
			got, e := Add(x, y)
			want, we := enclose(sums...)
			check(t, "Add", x, y, got, e, want, we)
			got, e = Sub(x, y)
			want, we = enclose(differences...)
			check(t, "Sub", x, y, got, e, want, we)
			got, e = Mul(x, y)
			want, we = enclose(products...)
			check(t, "Mul", x, y, got, e, want, we)
			got, e = Div(x, y)
			want, we = api.Interval{}, api.ErrDiv
			if !zero {
				want, we = enclose(quotients...)
			}
			check(t, "Div", x, y, got, e, want, we)
		}
	}
}

func checkRoot(t *testing.T, x api.Interval) {
	t.Helper()
	r, e := Sqrt(x)
	if x.Lo < 0 {
		check(t, "Sqrt", x, x, r, e, api.Interval{}, api.ErrRange)
		return
	}
	if lo, hi := x.Lo*Unit, x.Hi*Unit; e != api.OK || r.Lo*r.Lo > lo || (r.Lo+1)*(r.Lo+1) <= lo || r.Hi*r.Hi < hi || r.Hi > 0 && (r.Hi-1)*(r.Hi-1) >= hi {
		t.Fatalf("P27.3: Sqrt %v: %v %v", x, r, e)
	}
}

func part(r *rand.Rand, x api.Interval) api.Interval {
	a, b := x.Lo+r.Intn(x.Hi-x.Lo+1), x.Lo+r.Intn(x.Hi-x.Lo+1)
	return iv(min(a, b), max(a, b))
}

func TestInclusion(t *testing.T) { // P27.4
	r := rand.New(rand.NewSource(2))
	for _, x := range samples() {
		for _, y := range samples() {
			a, b := part(r, x), part(r, y)
			for i, f := range []func(x, y api.Interval) (api.Interval, api.Errno){Add, Sub, Mul, Div, Hull} {
				big, e := f(x, y)
				small, e2 := f(a, b)
				if e == api.OK && (e2 != api.OK || !Inside(small, big)) {
					t.Fatalf("P27.4: %d: %v %v", i, x, y)
				}
			}
		}
		a := part(r, x)
		for i, f := range []func(x api.Interval) (api.Interval, api.Errno){Neg, Square, Sqrt} {
			big, e := f(x)
			small, e2 := f(a)
			if e == api.OK && (e2 != api.OK || !Inside(small, big)) {
				t.Fatalf("P27.4: %d: %v", i, x)
			}
		}
	}
}

func TestHalves(t *testing.T) { // P27.5
	for _, x := range append(samples(), iv(5, 7), iv(5, 6), iv(-6, -3), iv(-7, -7)) {
		a, b, e := Split(x)
		if x.Hi-x.Lo < 2 {
			if e != api.ErrNone || a != (api.Interval{}) || b != (api.Interval{}) {
				t.Errorf("P27.5: %v: %v", x, e)
			}
			continue
		}
		middle := int(math.Floor(float64(x.Lo+x.Hi) / 2))
		if e != api.OK || a != iv(x.Lo, middle) || b != iv(middle, x.Hi) || a == x || b == x {
			t.Errorf("P27.5: %v: %v %v", x, a, b)
		}
	}
}

func TestSets(t *testing.T) { // P27.6
	for _, x := range samples() {
		for _, y := range samples() {
			h, e := Hull(x, y)
			m, e2 := Meet(x, y)
			if e != api.OK || !Inside(x, h) || !Inside(y, h) || h.Lo != x.Lo && h.Lo != y.Lo || h.Hi != x.Hi && h.Hi != y.Hi {
				t.Fatalf("P27.6: %v %v: %v", x, y, h)
			}
			if apart := x.Hi < y.Lo || y.Hi < x.Lo; apart != (e2 == api.ErrNone) || apart && m != (api.Interval{}) {
				t.Fatalf("P27.6: %v %v: %v", x, y, e2)
			}
			if e2 == api.OK && (!Inside(m, x) || !Inside(m, y) || m.Lo != max(x.Lo, y.Lo) || m.Hi != min(x.Hi, y.Hi)) {
				t.Fatalf("P27.6: %v %v: %v", x, y, m)
			}
			if Inside(x, y) != (x.Lo >= y.Lo && x.Hi <= y.Hi) {
				t.Fatalf("P27.6: %v %v", x, y)
			}
		}
		want := 0
		if x.Lo > 0 {
			want = 1
		} else if x.Hi < 0 {
			want = -1
		}
		if Sign(x) != want {
			t.Errorf("P27.1: Sign %v", x)
		}
	}
}

func TestNumbers(t *testing.T) { // P27.1
	for n, want := range map[int]api.Errno{0: api.OK, 64: api.OK, -64: api.OK, 65: api.ErrLimit, -65: api.ErrLimit, math.MaxInt: api.ErrLimit, math.MinInt: api.ErrLimit} {
		x, e := Of(n)
		if e != want || e == api.OK && x != iv(n*Unit, n*Unit) || e != api.OK && x != (api.Interval{}) {
			t.Errorf("P27.1: Of(%d): %v %v", n, x, e)
		}
	}
	for _, c := range [][2]int{{1, 3}, {-1, 3}, {1, -3}, {-7, -2}, {64, 1}, {6400, 100}, {math.MinInt, math.MinInt}, {math.MaxInt, math.MaxInt / 63}, {1, math.MinInt}, {65, 1}, {math.MinInt, 1}, {-641, 10}, {0, 5}, {0, -5}} {
		x, e := Ratio(c[0], c[1])
		want, we := enclose(new(big.Rat).SetFrac(big.NewInt(int64(c[0])), big.NewInt(int64(c[1]))))
		if x != want || e != we {
			t.Errorf("P27.1: Ratio %v: %v %v, want %v", c, x, e, want)
		}
	}
	if x, e := Ratio(1, 0); x != (api.Interval{}) || e != api.ErrDiv {
		t.Errorf("P27.1: %v", e)
	}
	for s, want := range map[string]api.Interval{"r2": iv(23726566, 23726567), "-r2": iv(-23726567, -23726566), "1/2": iv(Unit/2, Unit/2), "64": iv(Max, Max), "-1/3": iv(-5592406, -5592405)} {
		if x, e := Number(num(s)); x != want || e != api.OK {
			t.Errorf("P27.1: %s: %v %v", s, x, e)
		}
	}
	for _, s := range []string{"64.0000000001", "-65", "99999999999999999999999999", "46r2"} {
		if x, e := Number(num(s)); x != (api.Interval{}) || e != api.ErrLimit {
			t.Errorf("P27.1: %s: %v", s, e)
		}
	}
	if _, e := Number(api.Num{}); e != api.ErrArg {
		t.Errorf("P27.1: %v", e)
	}
}

func TestTexts(t *testing.T) { // P27.1
	for x, want := range map[api.Interval]string{
		iv(5592405, 5592406): "[0.333333, 0.333334]", iv(0, 0): "[0.000000, 0.000000]", iv(-1, 1): "[-0.000001, 0.000001]", iv(Unit, 2*Unit): "[1.000000, 2.000000]", iv(-Max, Max): "[-64.000000, 64.000000]", iv(-3*Unit/2, -Unit/2): "[-1.500000, -0.500000]", iv(-5592406, -5592405): "[-0.333334, -0.333333]", iv(1, 2): "[0.000000, 0.000001]", iv(-2, -1): "[-0.000001, 0.000000]",
	} {
		if s, e := Print(x); s != want || e != api.OK {
			t.Errorf("P27.1: %v: %s", x, s)
		}
	}
	q, _ := Div(iv(Unit, Unit), iv(3*Unit, 3*Unit))
	if q != iv(5592405, 5592406) {
		t.Errorf("P27.1: example: %v", q)
	}
}

func TestInvalid(t *testing.T) { // P27.1
	good := iv(0, 1)
	for _, bad := range []api.Interval{iv(1, 0), iv(-Max-1, 0), iv(0, Max+1), iv(math.MinInt, math.MaxInt), iv(math.MaxInt, math.MinInt)} {
		for i, f := range []func(x, y api.Interval) (api.Interval, api.Errno){Add, Sub, Mul, Div, Hull, Meet} {
			a, e1 := f(bad, good)
			b, e2 := f(good, bad)
			if e1 != api.ErrArg || e2 != api.ErrArg || a != b || a != (api.Interval{}) {
				t.Errorf("P27.1: %d %v: %v %v", i, bad, e1, e2)
			}
		}
		for i, f := range []func(x api.Interval) (api.Interval, api.Errno){Neg, Square, Sqrt} {
			if a, e := f(bad); e != api.ErrArg || a != (api.Interval{}) {
				t.Errorf("P27.1: %d %v: %v", i, bad, e)
			}
		}
		_, _, e1 := Split(bad)
		s, e2 := Print(bad)
		if Valid(bad) || Inside(bad, iv(-Max, Max)) || Inside(good, bad) || Sign(bad) != 0 || e1 != api.ErrArg || e2 != api.ErrArg || s != "" {
			t.Errorf("P27.1: %v", bad)
		}
	}
}
