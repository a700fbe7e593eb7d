package refraction

import (
	"math/rand"
	"testing"

	"culet/api"
	"culet/direction"
	"culet/field"
	"culet/interval"
	"culet/vector"
)

const one = interval.Unit

func num(s string) api.Num {
	x, _ := field.Parse(s)
	return x
}

func iv(lo, hi int) api.Interval { return api.Interval{Lo: lo, Hi: hi} }

func ratio(n, d int) api.Interval {
	x, _ := interval.Ratio(n, d)
	return x
}

func normals() []direction.Dir {
	l := []direction.Dir{}
	for _, s := range []string{"(0, 0, 1)", "(3, 0, 4)", "(1, 1, 1)", "(r2, -r3, 1/3)", "(1, -2, 5)"} {
		v, _ := vector.Parse(s)
		for _, w := range []api.Vec{v, vector.Neg(v)} {
			n, _ := direction.Normal(api.Plane{N: w, D: num("1")})
			l = append(l, n)
		}
	}
	return l
}

func point(r *rand.Rand, size int) api.Interval {
	n := r.Intn(2*size+1) - size
	return iv(n, n)
}

func part(r *rand.Rand, x api.Interval) api.Interval {
	a, b := x.Lo+r.Intn(x.Hi-x.Lo+1), x.Lo+r.Intn(x.Hi-x.Lo+1)
	return iv(min(a, b), max(a, b))
}

func partOf(r *rand.Rand, a direction.Dir) direction.Dir {
	return direction.Dir{X: part(r, a.X), Y: part(r, a.Y), Z: part(r, a.Z)}
}

func meet(a, b direction.Dir) bool {
	_, e1 := interval.Meet(a.X, b.X)
	_, e2 := interval.Meet(a.Y, b.Y)
	_, e3 := interval.Meet(a.Z, b.Z)
	return e1 == api.OK && e2 == api.OK && e3 == api.OK
}

func TestReflection(t *testing.T) { // P29.2
	r := rand.New(rand.NewSource(1))
	for range 300 {
		d, _ := direction.Of(point(r, one), point(r, one))
		for i, n := range normals() {
			a, e := Reflect(d, n)
			b, e2 := Reflect(a, n)
			c, _ := direction.Dot(d, n)
			two, _ := interval.Add(c, c)
			k, _ := direction.Scale(n, two)
			if want, _ := direction.Sub(d, k); a != want || e != api.OK || e2 != api.OK || !direction.Inside(d, b) {
				t.Fatalf("P29.2: %d: %v", i, d)
			}
		}
	}
}

func TestReversal(t *testing.T) { // P29.3, P29.4, P29.1
	r := rand.New(rand.NewSource(2))
	kinds := map[int]int{}
	for range 300 {
		d, _ := direction.Of(point(r, one), point(r, one))
		for _, k := range [][2]int{{3, 2}, {2, 3}, {24, 10}, {1, 1}} {
			q := ratio(k[0], k[1])
			for i, n := range normals() {
				kind, e := Hits(d, n, q)
				out, before, after, e2 := Refract(d, n, q)
				kinds[kind]++
				cosine, _ := direction.Dot(d, n)
				radicand, _ := Radicand(cosine, q)
				if e != api.OK || Decide(radicand) != kind {
					t.Fatalf("P29.1: Hits: %v", e)
				}
				sign := interval.Sign(cosine)
				switch {
				case sign == 0:
					if e2 != api.ErrState {
						t.Fatalf("P29.1: %v", e2)
					}
				case kind == Total || radicand.Lo < 0:
					if e2 != api.ErrAngle || out != (direction.Dir{}) || before != (api.Interval{}) || after != (api.Interval{}) {
						t.Fatalf("P29.4: %d: %v", i, e2)
					}
				case kind == Passes:
					back, _, _, e3 := Refract(out, n, ratio(k[1], k[0]))
					if e2 != api.OK || before != cosine || interval.Sign(after) != sign {
						t.Fatalf("P29.4: %d: %v", i, e2)
					}
					if e3 == api.OK && !meet(back, d) {
						t.Fatalf("P29.3: %d: %v", i, d)
					}
					checkFormula(t, d, n, q, out, before, after)
				}
			}
		}
	}
	if kinds[Total] < 20 || kinds[Passes] < 20 {
		t.Errorf("P29.4: %v", kinds)
	}
}

func checkFormula(t *testing.T, d, n direction.Dir, q api.Interval, out direction.Dir, before, after api.Interval) {
	t.Helper()
	radicand, _ := Radicand(before, q)
	root, _ := interval.Sqrt(radicand)
	if interval.Sign(before) < 0 {
		root, _ = interval.Neg(root)
	}
	along, _ := direction.Scale(d, q)
	p, _ := interval.Mul(q, before)
	f, _ := interval.Sub(root, p)
	across, _ := direction.Scale(n, f)
	want, _ := direction.Add(along, across)
	if after != root || out != want {
		t.Fatalf("P29.1: %v, want %v", out, want)
	}
}

func TestInclusion(t *testing.T) { // P29.5
	r := rand.New(rand.NewSource(3))
	decided := 0
	for range 3000 {
		d, _ := direction.Of(iv(r.Intn(one)-one, r.Intn(one)), iv(r.Intn(one/9)-one/9, r.Intn(one/9)))
		n := normals()[r.Intn(10)]
		q := iv(one/2+r.Intn(one), one*3/2+r.Intn(one))
		if r.Intn(2) == 0 {
			d, _ = direction.Of(iv(0, 1000), iv(-1000, 0))
			q = iv(q.Lo, q.Lo+1000)
		}
		pd, pn, pq := partOf(r, d), partOf(r, n), part(r, q)
		a, e := Reflect(d, n)
		b, e2 := Reflect(pd, pn)
		if e == api.OK && (e2 != api.OK || !direction.Inside(b, a)) {
			t.Fatalf("P29.5: Reflect: %v", e2)
		}
		k, e := Hits(d, n, q)
		m, e2 := Hits(pd, pn, pq)
		if e == api.OK && (e2 != api.OK || k != Undecided && m != k) {
			t.Fatalf("P29.5: Hits: %d %d", k, m)
		}
		o1, b1, a1, e := Refract(d, n, q)
		o2, b2, a2, e2 := Refract(pd, pn, pq)
		if e == api.OK {
			decided++
			if e2 != api.OK || !direction.Inside(o2, o1) || !interval.Inside(b2, b1) || !interval.Inside(a2, a1) {
				t.Fatalf("P29.5: Refract: %v", e2)
			}
		}
	}
	if decided < 100 {
		t.Errorf("P29.5: %d", decided)
	}
}

func TestStraight(t *testing.T) { // P29.6
	r := rand.New(rand.NewSource(4))
	for range 300 {
		d, _ := direction.Of(point(r, one), point(r, one))
		for i, n := range normals() {
			out, _, _, e := Refract(d, n, iv(one, one))
			if e == api.OK && !direction.Inside(d, out) {
				t.Fatalf("P29.6: %d: %v", i, d)
			}
		}
	}
	up := direction.Dir{X: iv(0, 0), Y: iv(0, 0), Z: iv(one, one)}
	for _, q := range []api.Interval{ratio(1, 2), ratio(3, 2), ratio(5, 1)} {
		k, _ := Hits(up, up, q)
		out, before, after, e := Refract(up, up, q)
		if k != Passes || out != up || before != iv(one, one) || after != iv(one, one) || e != api.OK {
			t.Errorf("P29.6: example: %v %v", out, e)
		}
	}
}

func TestNumbers(t *testing.T) { // P29.1
	for x, want := range map[api.Interval]int{iv(-5, -1): Total, iv(1, 5): Passes, iv(0, 5): Undecided, iv(-5, 0): Undecided, iv(0, 0): Undecided, iv(5, 1): 0} {
		if Decide(x) != want {
			t.Errorf("P29.1: Decide %v", x)
		}
	}
	if x, e := Critical(iv(2*one, 2*one)); x != iv(14529495, 14529496) || e != api.OK {
		t.Errorf("P29.1: Critical: %v %v", x, e)
	}
	if x, e := Critical(iv(one, one)); x != iv(0, 0) || e != api.OK {
		t.Errorf("P29.1: Critical: %v %v", x, e)
	}
	if x, e := Radicand(iv(one/2, one/2), iv(2*one, 2*one)); x != iv(-2*one, -2*one) || e != api.OK {
		t.Errorf("P29.1: Radicand: %v %v", x, e)
	}
	for x, want := range map[api.Interval]api.Errno{iv(2, 1): api.ErrArg, iv(one-1, one): api.ErrRange, iv(one, 9*one): api.ErrLimit} {
		if r, e := Critical(x); r != (api.Interval{}) || e != want {
			t.Errorf("P29.1: Critical %v: %v", x, e)
		}
	}
}

func TestErrors(t *testing.T) { // P29.1
	good := direction.Dir{X: iv(0, 0), Y: iv(0, 0), Z: iv(one, one)}
	bad := direction.Dir{X: iv(1, 0)}
	x, wrong := iv(one, one), iv(1, 0)
	_, e1 := Reflect(bad, good)
	_, e2 := Reflect(good, bad)
	_, e3 := Radicand(wrong, x)
	_, e4 := Radicand(x, wrong)
	k1, e5 := Hits(bad, good, x)
	k2, e6 := Hits(good, bad, x)
	k3, e7 := Hits(good, good, wrong)
	if k1 != 0 || k2 != 0 || k3 != 0 {
		t.Error("P29.1: Hits")
	}
	_, _, _, e8 := Refract(bad, good, x)
	_, _, _, e9 := Refract(good, bad, x)
	_, _, _, e10 := Refract(good, good, wrong)
	for i, e := range []api.Errno{e1, e2, e3, e4, e5, e6, e7, e8, e9, e10} {
		if e != api.ErrArg {
			t.Errorf("P29.1: %d: %v", i+1, e)
		}
	}
	long := direction.Dir{X: iv(40*one, 40*one), Y: iv(0, 0), Z: iv(40*one, 40*one)}
	a, e1 := Reflect(long, long)
	k, e2 := Hits(long, long, x)
	o, b, c, e3 := Refract(long, long, x)
	if e1 != api.ErrLimit || e2 != api.ErrLimit || e3 != api.ErrLimit || a != o || o != (direction.Dir{}) || k != 0 || b != c || b != (api.Interval{}) {
		t.Errorf("P29.1: %v %v %v", e1, e2, e3)
	}
	if r, e := Radicand(iv(20*one, 20*one), x); r != (api.Interval{}) || e != api.ErrLimit {
		t.Errorf("P29.1: %v", e)
	}
	flat := direction.Dir{X: iv(one, one), Y: iv(0, 0), Z: iv(0, 0)}
	if _, _, _, e := Refract(flat, good, iv(9*one, 9*one)); e != api.ErrState {
		t.Errorf("P29.1: %v", e)
	}
}
