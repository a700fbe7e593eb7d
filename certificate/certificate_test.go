package certificate

import (
	"reflect"
	"slices"
	"testing"

	"culet/api"
	"culet/field"
	"culet/meetpoint"
	"culet/plane"
	"culet/resolve"
	"culet/solid"
	"culet/syntax"
)

func num(s string) api.Num {
	x, _ := field.Parse(s)
	return x
}

func parse(t *testing.T, text string) api.Design {
	t.Helper()
	d, at, e := syntax.Parse(text)
	if e != api.OK {
		t.Fatal(text, at, e)
	}
	return d
}

const (
	pyramid   = "design pyramid order 4 tier B angle 0/-1 at 0 depth 0 tier C angle 1/1 at 0 depth 1"
	brilliant = `design brilliant order 8 mirror
		tier P angle 1/-1 at 0 depth 2
		tier G angle 1/0 at 0 edge P:0 P:3 height "-1/3"
		tier M angle 1/1 at 0 depth 2
		tier S angle 3/4 at 1 meet M:0 M:3 G:0
		tier T angle 0/1 at 0 edge S:1 S:2 height "9/10"`
	table = `design table order 6
		tier p angle 2/-1 at 0 through 0 0 -1
		tier g angle 1/0 at 0 edge p:0 p:4 height "-1/4"
		tier c angle 1/1 at 0 edge g:0 g:4 height 0
		tier t angle 0/1 at 0 edge c:0 c:4 height "1/5"`
)

func designs(t *testing.T) []api.Design {
	return []api.Design{parse(t, pyramid), parse(t, brilliant), parse(t, table)}
}

func copyOf(c Certificate) Certificate {
	out := Certificate{slices.Clone(c.Depths), slices.Clone(c.Verts), slices.Clone(c.Loops)}
	for i := range out.Loops {
		out.Loops[i] = slices.Clone(out.Loops[i])
	}
	return out
}

func TestExact(t *testing.T) { // P19.1, P19.2, W6
	for _, d := range designs(t) {
		c, at, e := Of(d)
		r, _, _ := resolve.Resolve(d)
		depths, _, _ := resolve.Depths(d)
		if at != 0 || e != api.OK || !slices.Equal(c.Depths, depths) || !slices.Equal(c.Verts, r.Solid.Verts) || len(c.Loops) != len(r.Facets) {
			t.Fatalf("P19.2: %s: %v", d.Name, e)
		}
		if !Fits(d, c) || Check(d, c) != api.OK || !Equal(c, c) {
			t.Errorf("P19.2: %s", d.Name)
		}
		facets, e1 := Facets(d, c)
		s, e2 := Solid(d, c)
		if e1 != api.OK || e2 != api.OK || !slices.Equal(facets, r.Facets) || !reflect.DeepEqual(s, r.Solid) {
			t.Errorf("P19.1: %s: %v %v", d.Name, e1, e2)
		}
	}
}

func TestIncidences(t *testing.T) { // P19.3, P19.4
	for _, d := range designs(t) {
		c, _, _ := Of(d)
		l, e := Incidence(d, c)
		s, _ := Solid(d, c)
		if e != api.OK || len(l) != len(c.Verts) {
			t.Fatalf("P19.3: %s: %v", d.Name, e)
		}
		total := 0
		for v, facets := range l {
			total += len(facets)
			if len(facets) < 3 || !slices.IsSorted(facets) {
				t.Errorf("P19.3: %s: vertex %d", d.Name, v)
			}
			for i, p := range s.Planes {
				want := -1
				if slices.Contains(facets, i) {
					want = 0
				}
				if plane.Side(p, c.Verts[v]) != want {
					t.Errorf("P19.3: %s: vertex %d facet %d", d.Name, v, i)
				}
			}
		}
		if 2*(len(c.Verts)+len(c.Loops)) != total+4 {
			t.Errorf("P19.3: %s: numbers", d.Name)
		}
		facets, _ := Facets(d, c)
		for _, x := range d.Tiers {
			if x.Fix.Kind != api.FixMeet {
				continue
			}
			p, _ := meetpoint.Point(facets, x.Fix)
			v := slices.Index(c.Verts, p)
			for _, r := range x.Fix.Refs {
				i := slices.IndexFunc(facets, func(f api.Facet) bool { return f.Tier == r.Tier && f.At.Index == r.Index })
				if v < 0 || !slices.Contains(l[v], i) {
					t.Errorf("P19.4: %s: %s", d.Name, x.Name)
				}
			}
		}
	}
}

func TestChanges(t *testing.T) { // P19.5, W6
	for _, d := range designs(t) {
		c, _, _ := Of(d)
		refuse := func(name string, i int, want api.Errno, change func(x *Certificate)) {
			t.Helper()
			x := copyOf(c)
			change(&x)
			l, e := Incidence(d, x)
			if Check(d, x) != want || e != want || l != nil || Equal(x, c) || Equal(c, x) {
				t.Errorf("P19.5: %s: %s %d: %v", d.Name, name, i, Check(d, x))
			}
		}
		for i := range c.Depths {
			for _, by := range []string{"1", "2", "-1/1000"} {
				refuse("depth", i, api.ErrProof, func(x *Certificate) { x.Depths[i] = field.Add(x.Depths[i], num(by)) })
			}
			refuse("no depth", i, api.ErrArg, func(x *Certificate) { x.Depths[i] = api.Num{} })
		}
		for i := range c.Verts {
			refuse("X", i, api.ErrProof, func(x *Certificate) { x.Verts[i].X = field.Add(x.Verts[i].X, num("1/9")) })
			refuse("Z", i, api.ErrProof, func(x *Certificate) { x.Verts[i].Z = field.Neg(field.Add(x.Verts[i].Z, num("r2"))) })
			refuse("no vertex", i, api.ErrArg, func(x *Certificate) { x.Verts[i].Y = api.Num{} })
		}
		for i := range c.Loops {
			refuse("loop", i, api.ErrProof, func(x *Certificate) { x.Loops[i][0] = (x.Loops[i][0] + 1) % len(c.Verts) })
			refuse("turned loop", i, api.ErrProof, func(x *Certificate) { slices.Reverse(x.Loops[i]) })
			refuse("short loop", i, api.ErrProof, func(x *Certificate) { x.Loops[i] = x.Loops[i][1:] })
			refuse("wrong index", i, api.ErrArg, func(x *Certificate) { x.Loops[i][1] = len(c.Verts) })
			refuse("negative index", i, api.ErrArg, func(x *Certificate) { x.Loops[i][1] = -1 })
		}
		refuse("fewer vertices", 0, api.ErrArg, func(x *Certificate) { x.Verts = x.Verts[:len(x.Verts)-1] })
		refuse("more vertices", 0, api.ErrProof, func(x *Certificate) { x.Verts = append(x.Verts, x.Verts[0]) })
		refuse("fewer depths", 0, api.ErrArg, func(x *Certificate) { x.Depths = x.Depths[1:] })
		refuse("fewer loops", 0, api.ErrArg, func(x *Certificate) { x.Loops = x.Loops[1:] })
	}
}

func TestErrors(t *testing.T) { // P19.1
	d := parse(t, pyramid)
	c, _, _ := Of(d)
	wrong := d
	wrong.Order = 5
	s, e1 := Solid(wrong, c)
	l, e2 := Facets(wrong, c)
	if Fits(wrong, c) || Check(wrong, c) != api.ErrArg || e1 != api.ErrArg || e2 != api.ErrArg || l != nil || len(s.Planes) > 0 {
		t.Error("P19.1: wrong design")
	}
	if x, at, e := Of(wrong); at != -1 || e != api.ErrRange || !Equal(x, Certificate{}) {
		t.Errorf("P19.1: %d %v", at, e)
	}
	open := parse(t, "design x order 4 tier C angle 1/1 at 0 depth 1")
	if _, at, e := Of(open); at != 1 || e != api.ErrOpen {
		t.Errorf("P19.1: %d %v", at, e)
	}
	// A meet that is cut away: everything else holds.
	cut := parse(t, `design cube order 4 tier top angle 0/1 at 0 depth 1 tier bottom angle 0/-1 at 0 depth 1 tier side angle 1/0 at 0 depth 1 tier c angle 1/1 at 3 through "r2" "r2" 0`)
	fixed, _, _ := resolve.Fixed(cut)
	x, _, e := Of(fixed)
	if e != api.OK || Check(fixed, x) != api.OK || Check(cut, x) != api.ErrProof {
		t.Errorf("P19.2: point outside: %v", Check(cut, x))
	}
	if s, _ := Solid(cut, x); !solid.Valid(s) {
		t.Error("P19.1: solid")
	}
	// The certificate of another depth has a valid solid, but not the depth of this design.
	other, _, _ := Of(parse(t, "design pyramid order 4 tier B angle 0/-1 at 0 depth 0 tier C angle 1/1 at 0 depth 2"))
	if s, e := Solid(d, other); !solid.Valid(s) || e != api.OK || Check(d, other) != api.ErrProof {
		t.Errorf("P19.2: other depth: %v", Check(d, other))
	}
	if !Equal(Certificate{}, Certificate{Loops: [][]int{}}) {
		t.Error("P19.1: nil and empty")
	}
	// The same with a point that is outside of one facet alone.
	cut = parse(t, `design cube order 4 tier top angle 0/1 at 0 depth 1 tier bottom angle 0/-1 at 0 depth 1 tier side angle 1/0 at 0 depth 1 tier c angle 1/1 at 3 through "3/2" "1/2" "2-r2"`)
	fixed, _, _ = resolve.Fixed(cut)
	x, _, e = Of(fixed)
	if e != api.OK || Check(fixed, x) != api.OK || Check(cut, x) != api.ErrProof {
		t.Errorf("P19.2: point outside: %v", Check(cut, x))
	}
	unknown := parse(t, "design x order 4 tier C angle 1/1 at 0 depth 1 tier T angle 0/1 at 0 meet C:0 C:6 C:6")
	if e := Check(unknown, Certificate{Depths: []api.Num{num("1"), num("1")}, Loops: make([][]int, 5)}); e != api.ErrProof {
		t.Errorf("P19.2: %v", e)
	}
}
