package transpose

import (
	"math"
	"slices"
	"testing"

	"culet/api"
	"culet/equivalence"
	"culet/field"
	"culet/format"
	"culet/measure"
	"culet/meetpoint"
	"culet/plane"
	"culet/resolve"
	"culet/section"
	"culet/syntax"
	"culet/vector"
)

func num(s string) api.Num {
	x, _ := field.Parse(s)
	return x
}

func vec(s string) api.Vec {
	v, _ := vector.Parse(s)
	return v
}

func parse(t *testing.T, text string) api.Design {
	t.Helper()
	d, at, e := syntax.Parse(text)
	if e != api.OK {
		t.Fatal(text, at, e)
	}
	return d
}

const brilliant = `design brilliant order 8 mirror
	tier P angle 1/-1 at 0 depth 2
	tier G angle 1/0 at 0 edge P:0 P:3 height "-1/3"
	tier M angle 1/1 at 0 depth 2
	tier S angle 3/4 at 1 meet M:0 M:3 G:0
	tier T angle 0/1 at 0 edge S:1 S:2 height "9/10"`

func facets(t *testing.T) []api.Facet {
	l, _, e := resolve.Facets(parse(t, brilliant))
	if e != api.OK {
		t.Fatal(e)
	}
	return append(l, api.Facet{Tier: "x", At: api.Setting{H: 7, V: -5, Index: 3}, Depth: num("r2-1")}, api.Facet{Tier: "y", At: api.Setting{V: -1}, Depth: num("1/3r6")})
}

func stretches() []Stretch {
	return []Stretch{{1, num("0"), 2, 1}, {1, num("1/3"), 3, 4}, {-1, num("-r2"), 5, 3}, {-1, num("2"), 4, 4}, {1, num("1"), 1, 6}}
}

func TestPoints(t *testing.T) { // P24.2
	points := []api.Vec{vec("(0, 0, 0)"), vec("(1, 1, 1)"), vec("(2, 0, 0)"), vec("(5/3, -r2, 1/3)"), vec("(-1/2, 1/3, -7/2)"), vec("(0, 0, 2)")}
	for i, s := range stretches() {
		for _, p := range points {
			q, e := Point(p, s)
			if e != api.OK || q.X != p.X || q.Y != p.Y || p.Z == s.Z && q != p {
				t.Fatalf("P24.2: %d: %v", i, e)
			}
			for k, f := range facets(t) {
				g, e := Facet(f, s)
				if e != api.OK || g.Tier != f.Tier || g.At.Index != f.At.Index || !plane.ValidSetting(g.At) {
					t.Fatalf("P24.2: %d %d: %v", i, k, e)
				}
				if part := f.At.V * s.Part; part <= 0 {
					if g != f {
						t.Errorf("P24.2: %d %d: other part", i, k)
					}
					continue
				}
				a, _ := meetpoint.Plane(f)
				b, _ := meetpoint.Plane(g)
				if plane.Side(a, p) != plane.Side(b, q) {
					t.Errorf("P24.2: %d %d: %s", i, k, vector.Print(p))
				}
			}
		}
	}
	f, _ := Facet(api.Facet{At: api.Setting{H: 1, V: 1}, Depth: num("3")}, Stretch{1, num("1"), 2, 1})
	p, _ := Point(vec("(0, 0, 3)"), Stretch{1, num("1"), 2, 1})
	if f != (api.Facet{At: api.Setting{H: 2, V: 1}, Depth: num("5")}) || p != vec("(0, 0, 5)") {
		t.Error("P24.2: example")
	}
}

func TestBack(t *testing.T) { // P24.3, P24.6
	l := facets(t)
	for i, s := range stretches() {
		a, e := Facets(l, s)
		back, e2 := Facets(a, Stretch{s.Part, s.Z, s.D, s.N})
		if e != api.OK || e2 != api.OK || !slices.Equal(back, l) {
			t.Errorf("P24.3: %d: %v %v", i, e, e2)
		}
		twice, _ := Facets(a, Stretch{s.Part, s.Z, 3, 2})
		once, _ := Facets(l, Stretch{s.Part, s.Z, 3 * s.N, 2 * s.D})
		if !slices.Equal(twice, once) || len(once) != len(l) {
			t.Errorf("P24.3: %d: product", i)
		}
		o := Stretch{-s.Part, num("1/2"), 7, 5}
		b, _ := Facets(l, o)
		ab, _ := Facets(a, o)
		ba, _ := Facets(b, s)
		if !slices.Equal(ab, ba) {
			t.Errorf("P24.6: %d", i)
		}
	}
}

func TestDesign(t *testing.T) { // P24.4
	d := parse(t, brilliant)
	l, _, _ := resolve.Facets(d)
	for i, s := range stretches() {
		out, at, e := Design(d, s)
		want, _ := Facets(l, s)
		got, _, e2 := resolve.Facets(out)
		if at != 0 || e != api.OK || e2 != api.OK || !slices.Equal(got, want) {
			t.Errorf("P24.4: %d: %v %v", i, e, e2)
		}
		for k, x := range out.Tiers {
			if x.Fix.Kind != api.FixDepth || !slices.Equal(x.Indices, d.Tiers[k].Indices) || x.Name != d.Tiers[k].Name {
				t.Errorf("P24.4: %d: tier %d", i, k)
			}
		}
		if out.Name != d.Name || out.Order != d.Order || !out.Mirror || !format.Can(out) {
			t.Errorf("P24.4: %d", i)
		}
	}
}

func TestBoth(t *testing.T) { // W3
	for _, text := range []string{brilliant, "design cube order 4 tier top angle 0/1 at 0 depth 1 tier bottom angle 0/-1 at 0 depth 1 tier side angle 1/0 at 0 depth 1"} {
		d := parse(t, text)
		r, _, _ := resolve.Resolve(d)
		v, _ := measure.Volume(r.Solid)
		plan, _ := section.Plan(r.Solid)
		for _, c := range [][2]int{{1, 4}, {3, 2}, {4, 3}} {
			for _, z := range []string{"-2", "0", "1/2"} {
				a, _, e1 := Design(d, Stretch{1, num(z), c[0], c[1]})
				b, _, e2 := Design(a, Stretch{-1, num(z), c[0], c[1]})
				q, _, e3 := resolve.Resolve(b)
				if e1 != api.OK || e2 != api.OK || e3 != api.OK {
					t.Fatalf("W3: %v: %v %v %v", c, e1, e2, e3)
				}
				k, _ := field.Ratio(c[0], c[1])
				w, _ := measure.Volume(q.Solid)
				if other, _ := section.Plan(q.Solid); w != field.Mul(v, k) || !slices.Equal(other, plan) {
					t.Errorf("W3: %v at %s", c, z)
				}
			}
		}
	}
	cube := parse(t, "design cube order 4 tier top angle 0/1 at 0 depth 1 tier bottom angle 0/-1 at 0 depth 1 tier side angle 1/0 at 0 depth 1")
	a, _, _ := Design(cube, Stretch{1, num("0"), 2, 1})
	r, _, _ := resolve.Resolve(a)
	if v, _ := measure.Volume(r.Solid); v != num("12") {
		t.Errorf("W3: example: %s", field.Print(v))
	}
}

func TestFactor(t *testing.T) { // P24.5
	for a := 1001; a < 10000; a += 731 {
		for b := 1001; b < 10000; b += 613 {
			n, d, e := Factor(a, b)
			q := math.Sqrt(float64(a*a-1000000) / float64(b*b-1000000))
			k := math.Floor(100*q + 0.5)
			if k < 1 || k > 1000 {
				if n != 0 || d != 0 || e != api.ErrRange {
					t.Errorf("P24.5: %d %d: %d/%d %v", a, b, n, d, e)
				}
				continue
			}
			if e != api.OK || float64(n)*100 != k*float64(d) || 100%d != 0 {
				t.Errorf("P24.5: %d %d: %d/%d %v", a, b, n, d, e)
			}
			if a == b && (n != 1 || d != 1) || (n >= d) != (b <= a || k == 100) {
				t.Errorf("P24.5: %d %d: %d/%d", a, b, n, d)
			}
		}
	}
	for _, c := range [][2]int{{1000, 1500}, {1500, 1000}, {10000, 1500}, {1500, 10000}, {9999, 1001}, {math.MinInt, 1500}} {
		if n, d, e := Factor(c[0], c[1]); n != 0 || d != 0 || e != api.ErrRange {
			t.Errorf("P24.1: %v: %v", c, e)
		}
	}
	for _, a := range []int{1001, 9999} {
		if n, d, e := Factor(a, a); n != 1 || d != 1 || e != api.OK {
			t.Errorf("P24.5: %d: %d/%d %v", a, n, d, e)
		}
	}
	if n, d, e := Factor(6708, 1200); n != 10 || d != 1 || e != api.OK {
		t.Errorf("P24.5: %d/%d %v", n, d, e)
	}
	if n, d, e := Factor(1544, 1762); n != 81 || d != 100 || e != api.OK {
		t.Errorf("P24.5: %d/%d", n, d)
	}
}

func TestErrors(t *testing.T) { // P24.1
	good := Stretch{1, num("0"), 2, 1}
	l := facets(t)
	for i, s := range []Stretch{{0, num("0"), 1, 1}, {2, num("0"), 1, 1}, {1, api.Num{}, 1, 1}, {1, num("0"), 0, 1}, {1, num("0"), 1, 0}, {1, num("0"), 1001, 1}, {1, num("0"), 1, 1001}, {-1, num("0"), -1, 1}} {
		f, e1 := Facet(l[0], s)
		fs, e2 := Facets(l, s)
		p, e3 := Point(vec("(0, 0, 0)"), s)
		_, at, e4 := Design(api.Design{}, s)
		if Valid(s) || e1 != api.ErrArg || e2 != api.ErrArg || e3 != api.ErrArg || e4 != api.ErrArg || at != -1 || f != (api.Facet{}) || fs != nil || p != (api.Vec{}) {
			t.Errorf("P24.1: %d: %v %v %v %v", i, e1, e2, e3, e4)
		}
	}
	for i, bad := range []api.Facet{{At: api.Setting{H: 1}}, {At: api.Setting{H: 2, V: 4}, Depth: num("1")}} {
		_, e1 := Facet(bad, good)
		_, e2 := Facets(append(slices.Clone(l), bad), good)
		if e1 != api.ErrArg || e2 != api.ErrArg {
			t.Errorf("P24.1: %d: %v %v", i, e1, e2)
		}
	}
	if _, e := Point(api.Vec{}, good); e != api.ErrArg {
		t.Errorf("P24.1: %v", e)
	}
	steep := api.Facet{At: api.Setting{H: 997, V: 999}, Depth: num("1")}
	for _, s := range []Stretch{{1, num("0"), 2, 1}, {1, num("0"), 1, 3}, {1, num("0"), 1000, 999}} {
		f, e := Facet(steep, s)
		fs, e2 := Facets(append(slices.Clone(l), steep), s)
		if e != api.ErrAngle || e2 != api.ErrAngle || f != (api.Facet{}) || fs != nil {
			t.Errorf("P24.1: %v: %v", s, e)
		}
	}
	for _, c := range []struct{ h, v, n, d, wh, wv int }{{500, 1, 2, 1, 1000, 1}, {1, 500, 1, 2, 1, 1000}, {1000, 1, 1, 1, 1000, 1}} {
		if f, e := Facet(api.Facet{At: api.Setting{H: c.h, V: c.v}, Depth: num("1")}, Stretch{1, num("0"), c.n, c.d}); e != api.OK || f.At.H != c.wh || f.At.V != c.wv {
			t.Errorf("P24.1: %v: %v %v", c, f, e)
		}
	}
	if f, e := Facet(steep, Stretch{1, num("0"), 1000, 1}); e != api.ErrAngle {
		t.Errorf("P24.1: %v %v", f, e)
	}
	if f, e := Facet(api.Facet{At: api.Setting{H: 999, V: 1000}, Depth: num("1")}, Stretch{1, num("0"), 500, 999}); e != api.OK || f.At.H != 1 || f.At.V != 2 {
		t.Errorf("P24.1: %v %v", f, e)
	}
	d := parse(t, "design x order 1 tier a angle 1/-1 at 0 depth 1 tier b angle 997/999 at 0 depth 1 tier c angle 995/999 at 0 depth 1")
	if out, at, e := Design(d, good); at != 1 || e != api.ErrAngle || out.Name != "" {
		t.Errorf("P24.1: %d %v", at, e)
	}
	d.Order = 7
	if _, at, e := Design(d, good); at != -1 || e != api.ErrRange {
		t.Errorf("P24.1: %d %v", at, e)
	}
	if !equivalence.Valid(l) {
		t.Error("facets")
	}
}
