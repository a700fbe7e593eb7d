package direction

import (
	"math/rand"
	"testing"

	"culet/api"
	"culet/field"
	"culet/interval"
	"culet/plane"
	"culet/vector"
)

const one = interval.Unit

func num(s string) api.Num {
	x, _ := field.Parse(s)
	return x
}

func vec(s string) api.Vec {
	v, _ := vector.Parse(s)
	return v
}

func iv(lo, hi int) api.Interval { return api.Interval{Lo: lo, Hi: hi} }

func random(r *rand.Rand, size int) api.Interval {
	a, b := r.Intn(2*size+1)-size, r.Intn(2*size+1)-size
	return iv(min(a, b), max(a, b))
}

func box(r *rand.Rand, size int) Dir {
	return Dir{random(r, size), random(r, size), random(r, size)}
}

func part(r *rand.Rand, x api.Interval) api.Interval {
	a, b := x.Lo+r.Intn(x.Hi-x.Lo+1), x.Lo+r.Intn(x.Hi-x.Lo+1)
	return iv(min(a, b), max(a, b))
}

func partOf(r *rand.Rand, a Dir) Dir {
	return Dir{part(r, a.X), part(r, a.Y), part(r, a.Z)}
}

func planes() []api.Plane {
	l := []api.Plane{}
	for _, s := range [][2]string{{"(3, 0, 4)", "5"}, {"(0, 0, 1)", "1"}, {"(0, 0, -2)", "1"}, {"(1, 1, 1)", "r2"}, {"(r2, -r3, 1/3)", "-7/3"}, {"(1/4r2+1/4r6, 1/4r6-1/4r2, -3/4)", "1/2"}, {"(-1, 1000, 0)", "0"}, {"(1/1000000000000, 0, 1)", "1/3r6"}} {
		l = append(l, api.Plane{N: vec(s[0]), D: num(s[1])})
	}
	return l
}

func TestFormulas(t *testing.T) { // P28.1
	r := rand.New(rand.NewSource(1))
	for i := range 400 {
		size := []int{one / 2, 2 * one, 20 * one, interval.Max}[i%4]
		a, b, k := box(r, size), box(r, size), random(r, size)
		for j, c := range []struct {
			f func(a, b Dir) (Dir, api.Errno)
			g operation
			b Dir
		}{{Add, interval.Add, b}, {Sub, interval.Sub, b}, {func(a, _ Dir) (Dir, api.Errno) { return Scale(a, k) }, interval.Mul, Dir{k, k, k}}} {
			got, e := c.f(a, b)
			x, e1 := c.g(a.X, c.b.X)
			y, e2 := c.g(a.Y, c.b.Y)
			z, e3 := c.g(a.Z, c.b.Z)
			checkDir(t, j, got, e, Dir{x, y, z}, e1, e2, e3)
		}
		x, e1 := interval.Mul(a.X, b.X)
		y, e2 := interval.Mul(a.Y, b.Y)
		z, e3 := interval.Mul(a.Z, b.Z)
		s, e4 := interval.Add(x, y)
		s, e5 := interval.Add(s, z)
		got, e := Dot(a, b)
		checkNumber(t, "Dot", got, e, s, e1, e2, e3, e4, e5)
		x, e1 = interval.Square(a.X)
		y, e2 = interval.Square(a.Y)
		z, e3 = interval.Square(a.Z)
		s, e4 = interval.Add(x, y)
		s, e5 = interval.Add(s, z)
		got, e = Norm2(a)
		checkNumber(t, "Norm2", got, e, s, e1, e2, e3, e4, e5)
		if e == api.OK {
			root, _ := interval.Sqrt(got)
			unit, e := Unit(a)
			x, e1 := interval.Div(a.X, root)
			y, e2 := interval.Div(a.Y, root)
			z, e3 := interval.Div(a.Z, root)
			checkDir(t, 9, unit, e, Dir{x, y, z}, e1, e2, e3)
		} else if u, e2 := Unit(a); e2 != e || u != (Dir{}) {
			t.Fatalf("P28.1: Unit: %v", e2)
		}
	}
}

func first(l []api.Errno) api.Errno {
	for _, e := range l {
		if e != api.OK {
			return e
		}
	}
	return api.OK
}

func checkDir(t *testing.T, i int, got Dir, e api.Errno, want Dir, l ...api.Errno) {
	t.Helper()
	if we := first(l); e != we || e == api.OK && got != want || e != api.OK && got != (Dir{}) {
		t.Fatalf("P28.1: %d: %v %v, want %v %v", i, got, e, want, we)
	}
}

func checkNumber(t *testing.T, name string, got api.Interval, e api.Errno, want api.Interval, l ...api.Errno) {
	t.Helper()
	if we := first(l); e != we || e == api.OK && got != want || e != api.OK && got != (api.Interval{}) {
		t.Fatalf("P28.1: %s: %v %v, want %v %v", name, got, e, want, we)
	}
}

func TestLength(t *testing.T) { // P28.2
	r := rand.New(rand.NewSource(2))
	unit := iv(one, one)
	for range 300 {
		d, e := Of(random(r, 2*one), random(r, 2*one))
		if n, e2 := Norm2(d); e == api.OK && e2 == api.OK && !interval.Inside(unit, n) {
			t.Fatalf("P28.2: %v", d)
		}
	}
	for i, p := range planes() {
		d, e := Normal(p)
		if n, _ := Norm2(d); e != api.OK || !interval.Inside(unit, n) {
			t.Errorf("P28.2: %d: %v", i, d)
		}
	}
	if d, e := Of(iv(0, 0), iv(0, 0)); d != (Dir{iv(0, 0), iv(0, 0), iv(-one, -one)}) || e != api.OK {
		t.Errorf("P28.1: example: %v", d)
	}
	if d, e := Of(iv(one/2, one/2), iv(0, 0)); d.X != iv(13421772, 13421773) || d.Z != iv(-10066330, -10066329) || e != api.OK {
		t.Errorf("P28.1: %v", d)
	}
	if d, e := Of(iv(60*one, 60*one), iv(0, 0)); d != (Dir{}) || e != api.ErrLimit {
		t.Errorf("P28.1: %v", e)
	}
}

func TestInclusion(t *testing.T) { // P28.3
	r := rand.New(rand.NewSource(3))
	for range 500 {
		a, b, k := box(r, 3*one), box(r, 3*one), random(r, 3*one)
		pa, pb, pk := partOf(r, a), partOf(r, b), part(r, k)
		for i, f := range []func(a, b Dir, k api.Interval) (Dir, api.Errno){
			func(a, b Dir, _ api.Interval) (Dir, api.Errno) { return Add(a, b) }, func(a, b Dir, _ api.Interval) (Dir, api.Errno) { return Sub(a, b) }, func(a, _ Dir, k api.Interval) (Dir, api.Errno) { return Scale(a, k) }, func(a, _ Dir, _ api.Interval) (Dir, api.Errno) { return Unit(a) }, func(a, _ Dir, k api.Interval) (Dir, api.Errno) { return Of(a.X, k) },
			func(a, b Dir, _ api.Interval) (Dir, api.Errno) { x, e := Dot(a, b); return Dir{x, x, x}, e }, func(a, _ Dir, _ api.Interval) (Dir, api.Errno) { x, e := Norm2(a); return Dir{x, x, x}, e },
		} {
			big, e := f(a, b, k)
			small, e2 := f(pa, pb, pk)
			if e == api.OK && (e2 != api.OK || !Inside(small, big)) {
				t.Fatalf("P28.3: %d: %v", i, e2)
			}
		}
	}
}

func TestNormals(t *testing.T) { // P28.4, P28.5
	for i, p := range planes() {
		n, e1 := Normal(p)
		d, e2 := Distance(p)
		if e1 != api.OK || e2 != api.OK {
			t.Fatalf("P28.4: %d: %v %v", i, e1, e2)
		}
		for _, s := range []string{"2", "1/7r3", "123456789"} {
			k := num(s)
			q := api.Plane{N: vector.Scale(p.N, k), D: field.Mul(p.D, k)}
			m, _ := Normal(q)
			if c, _ := Distance(q); m != n || c != d {
				t.Errorf("P28.4: %d times %s", i, s)
			}
		}
		o, _ := plane.Opposite(p)
		m, _ := Normal(o)
		c, _ := Distance(o)
		if m != (Dir{iv(-n.X.Hi, -n.X.Lo), iv(-n.Y.Hi, -n.Y.Lo), iv(-n.Z.Hi, -n.Z.Lo)}) || c != iv(-d.Hi, -d.Lo) {
			t.Errorf("P28.4: %d: opposite", i)
		}
		length := vector.Dot(p.N, p.N)
		for k, x := range []api.Num{p.N.X, p.N.Y, p.N.Z, p.D} {
			checkEnclosure(t, []api.Interval{n.X, n.Y, n.Z, d}[k], x, length)
		}
		foot := vector.Scale(p.N, div(p.D, length))
		for _, side := range []string{"(1, 0, 0)", "(0, 1, -1)", "(1, r2, 3)"} {
			v := vector.Add(foot, vector.Cross(p.N, vec(side)))
			at, e := Point(v)
			if e != api.OK {
				continue
			}
			x, e := Dot(n, at)
			if _, none := interval.Meet(x, d); e == api.OK && none != api.OK {
				t.Errorf("P28.5: %d: %s", i, side)
			}
		}
	}
	n, _ := Normal(planes()[0])
	if n.X != iv(10066329, 10066330) || n.Y != iv(0, 0) {
		t.Errorf("P28.4: example: %v", n)
	}
	if n, _ := Normal(planes()[1]); n != (Dir{iv(0, 0), iv(0, 0), iv(one, one)}) {
		t.Errorf("P28.4: exact: %v", n)
	}
}

func div(x, y api.Num) api.Num {
	q, _ := field.Div(x, y)
	return q
}

// checkEnclosure checks that an interval is the least one with x divided by the root of a number.
func checkEnclosure(t *testing.T, i api.Interval, x, square api.Num) {
	t.Helper()
	// side compares n units with the quotient.
	side := func(n int) int {
		u, _ := field.Ratio(n, one)
		left := field.Mul(field.Mul(u, field.Abs(u)), square)
		return field.Cmp(left, field.Mul(x, field.Abs(x)))
	}
	if side(i.Lo) > 0 || side(i.Lo+1) <= 0 || side(i.Hi) < 0 || side(i.Hi-1) >= 0 {
		t.Errorf("P28.1: %v does not enclose %s", i, field.Print(x))
	}
}

func TestErrors(t *testing.T) { // P28.1
	good := Dir{iv(0, 1), iv(0, 1), iv(0, 1)}
	wrong := iv(1, 0)
	for k := range 3 {
		bad := good
		*[]*api.Interval{&bad.X, &bad.Y, &bad.Z}[k] = wrong
		_, e1 := Add(bad, good)
		_, e2 := Add(good, bad)
		_, e3 := Sub(bad, good)
		_, e4 := Sub(good, bad)
		_, e5 := Scale(bad, good.X)
		_, e6 := Scale(good, wrong)
		_, e7 := Dot(bad, good)
		_, e8 := Dot(good, bad)
		_, e9 := Norm2(bad)
		_, e10 := Unit(bad)
		s, e11 := Print(bad)
		_, e12 := Of(wrong, good.X)
		_, e13 := Of(good.X, wrong)
		for i, e := range []api.Errno{e1, e2, e3, e4, e5, e6, e7, e8, e9, e10, e11, e12, e13} {
			if e != api.ErrArg {
				t.Errorf("P28.1: %d %d: %v", k, i+1, e)
			}
		}
		if Valid(bad) || Inside(bad, bad) || Inside(good, bad) || Inside(bad, good) || s != "" {
			t.Errorf("P28.1: %d", k)
		}
		wide := good
		*[]*api.Interval{&wide.X, &wide.Y, &wide.Z}[k] = iv(0, 2)
		if !Inside(good, wide) || Inside(wide, good) {
			t.Errorf("P28.1: Inside %d", k)
		}
	}
	_, e1 := Point(api.Vec{})
	_, e2 := Normal(api.Plane{})
	_, e3 := Distance(api.Plane{N: vector.Of(1, 0, 0)})
	if e1 != api.ErrArg || e2 != api.ErrArg || e3 != api.ErrArg {
		t.Errorf("P28.1: %v %v %v", e1, e2, e3)
	}
	if p, e := Point(vec("(1, 65, 0)")); p != (Dir{}) || e != api.ErrLimit {
		t.Errorf("P28.1: %v", e)
	}
	for _, d := range []string{"65", "-64.00000001", "999999999999999999999999999999r2"} {
		if x, e := Distance(api.Plane{N: vector.Of(0, 1, 0), D: num(d)}); x != (api.Interval{}) || e != api.ErrLimit {
			t.Errorf("P28.1: %s: %v", d, e)
		}
	}
	if x, e := Distance(api.Plane{N: vector.Of(0, 2, 0), D: num("-128")}); x != iv(-64*one, -64*one) || e != api.OK {
		t.Errorf("P28.1: %v", e)
	}
	if _, e := Unit(Dir{iv(-1, 1), iv(0, 0), iv(0, 0)}); e != api.ErrDiv {
		t.Errorf("P28.1: %v", e)
	}
	if s, e := Print(Dir{iv(0, 0), iv(-one, one), iv(1, 1)}); s != "([0.000000, 0.000000], [-1.000000, 1.000000], [0.000000, 0.000001])" || e != api.OK {
		t.Errorf("P28.1: %s", s)
	}
}
