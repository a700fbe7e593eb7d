// Package whole tests the promises of the whole document on many small designs.
package whole

import (
	"math/rand"
	"reflect"
	"slices"
	"strconv"
	"strings"
	"testing"

	"culet/api"
	"culet/audit"
	"culet/cell"
	"culet/certificate"
	"culet/clone"
	"culet/console"
	"culet/cut"
	"culet/equivalence"
	"culet/field"
	"culet/format"
	"culet/interchange"
	"culet/interval"
	"culet/lightproof"
	"culet/measure"
	"culet/refine"
	"culet/resolve"
	"culet/section"
	"culet/settings"
	"culet/solid"
	"culet/symmetry"
	"culet/syntax"
	"culet/trace"
	"culet/transfer"
	"culet/transpose"
	"culet/vector"
	"culet/wheel"
)

func num(s string) api.Num {
	x, _ := field.Parse(s)
	return x
}

// random returns a small design, which often does not resolve.
func random(r *rand.Rand) api.Design {
	d := api.Design{Name: "small", Order: []int{1, 2, 3, 4, 6, 8}[r.Intn(6)], Mirror: r.Intn(2) == 0}
	add := func(name string, h, v int, fix string, indices ...int) {
		f, _, e := syntax.Fix(fix)
		if e != api.OK {
			panic(fix)
		}
		d.Tiers = append(d.Tiers, api.Tier{Name: name, H: h, V: v, Indices: indices, Fix: f})
	}
	depth := func() string { return []string{"1", "2", `"3/2"`, `"r2"`, `"1/2+1/3r6"`}[r.Intn(5)] }
	indices := []int{r.Intn(24)}
	if d.Order < 3 {
		indices = append(indices, (indices[0]+6)%24, (indices[0]+13)%24)
	}
	add("p", 1+r.Intn(3), -1-r.Intn(3), "depth "+depth(), indices...)
	first := strconv.Itoa(indices[0])
	switch r.Intn(3) {
	case 0:
		add("t", 0, 1, "depth "+depth(), 0)
	case 1:
		add("t", 0, 1, `through 0 0 "1/2"`, 0)
	}
	if r.Intn(2) == 0 {
		add("g", 1, 0, "depth "+depth(), indices[0])
	}
	if r.Intn(2) == 0 {
		next := strconv.Itoa((indices[0] + 24/d.Order) % 24)
		add("c", 1, 1+r.Intn(2), "edge p:"+first+" p:"+next+` height "-1/3"`, indices...)
	} else {
		add("c", 1+r.Intn(2), 1, "depth "+depth(), indices...)
	}
	if r.Intn(3) == 0 {
		add("k", 0, -1, `depth "1/2"`, 0)
	}
	return d
}

// stone is a small design that resolves.
type stone struct {
	design api.Design
	r      api.Resolved
}

func stones(t *testing.T) []stone {
	t.Helper()
	r := rand.New(rand.NewSource(1))
	l := []stone{}
	for tries := 0; len(l) < 24; tries++ {
		if tries > 5000 {
			t.Fatal("too few designs resolve")
		}
		d := random(r)
		if x, _, e := resolve.Resolve(d); e == api.OK {
			l = append(l, stone{d, x})
		}
	}
	return l
}

func volume(t *testing.T, s api.Solid) api.Num {
	t.Helper()
	v, e := measure.Volume(s)
	if e != api.OK {
		t.Fatal(e)
	}
	return v
}

func TestCutting(t *testing.T) { // W1, W2
	for i, x := range stones(t) {
		planes := slices.Clone(x.r.Solid.Planes)
		for range 2 {
			s, e := cut.All(planes)
			if e != api.OK || !slices.Equal(s.Verts, x.r.Solid.Verts) || volume(t, s) != volume(t, x.r.Solid) || len(s.Faces) != len(x.r.Facets) {
				t.Errorf("W1: %d: %v", i, e)
			}
			slices.Reverse(planes)
		}
		order, mirror, _ := symmetry.Order(x.r.Solid)
		ms, _ := symmetry.Symmetries(x.r.Solid)
		want, _ := wheel.Motions(x.design.Order, x.design.Mirror)
		for _, m := range want {
			if !slices.Contains(ms, m) {
				t.Errorf("W2: %d: %v", i, m)
			}
		}
		if order%x.design.Order != 0 || x.design.Mirror && !mirror {
			t.Errorf("W2: %d: %d", i, order)
		}
	}
}

func TestTransposing(t *testing.T) { // W3
	for i, x := range stones(t) {
		n, d, z := 1+i%4, 1+i/4%4, field.Of(i%5-2)
		a, _, e1 := transpose.Design(x.design, transpose.Stretch{Part: 1, Z: z, N: n, D: d})
		b, _, e2 := transpose.Design(a, transpose.Stretch{Part: -1, Z: z, N: n, D: d})
		r, _, e3 := resolve.Resolve(b)
		if e1 != api.OK || e2 != api.OK || e3 != api.OK {
			t.Fatalf("W3: %d: %v %v %v", i, e1, e2, e3)
		}
		k, _ := field.Ratio(n, d)
		p, _ := section.Plan(x.r.Solid)
		q, _ := section.Plan(r.Solid)
		if volume(t, r.Solid) != field.Mul(k, volume(t, x.r.Solid)) || !slices.Equal(p, q) {
			t.Errorf("W3: %d", i)
		}
	}
}

func TestEquivalence(t *testing.T) { // W4
	for i, x := range stones(t) {
		fixed, _, _ := resolve.Fixed(x.design)
		other := clone.Design(fixed)
		slices.Reverse(other.Tiers)
		factor := field.Of(1 + i%3)
		turn := i % 24
		if other.Mirror {
			// The mirrors of a design stay where they are.
			turn = turn * 12 / other.Order % 24
		}
		for k := range other.Tiers {
			y := &other.Tiers[k]
			y.Fix.Depth = field.Mul(y.Fix.Depth, factor)
			for j := range y.Indices {
				if y.H > 0 {
					y.Indices[j] = (y.Indices[j] + turn) % 24
				}
			}
		}
		r, _, e := resolve.Resolve(other)
		if e != api.OK || !equivalence.Equivalent(r.Facets, x.r.Facets) {
			t.Fatalf("W4: %d: %v", i, e)
		}
		s, e := symmetry.Similar(x.r.Solid, r.Solid)
		cube := field.Mul(factor, field.Mul(factor, factor))
		if e != api.OK || s.Scale != factor || volume(t, r.Solid) != field.Mul(cube, volume(t, x.r.Solid)) {
			t.Errorf("W4: %d: %v", i, e)
		}
	}
}

func TestTexts(t *testing.T) { // W5
	for i, x := range stones(t) {
		text, _ := format.Print(x.design)
		a, _, e1 := syntax.Parse(text)
		b, _ := interchange.EncodeDesign(x.design)
		c, e2 := interchange.DecodeDesign(b)
		d, _ := interchange.EncodeStone(x.r)
		s, e3 := interchange.DecodeStone(d)
		if e1 != api.OK || e2 != api.OK || e3 != api.OK || !format.Equal(a, x.design) || !format.Equal(c, x.design) || !reflect.DeepEqual(s, x.r) {
			t.Errorf("W5: %d: %v %v %v", i, e1, e2, e3)
		}
		if r, _, _ := resolve.Resolve(a); !reflect.DeepEqual(r, x.r) {
			t.Errorf("W5: %d", i)
		}
	}
}

func TestCertificates(t *testing.T) { // W6, W13
	for i, x := range stones(t) {
		c, _, e := certificate.Of(x.design)
		if e != api.OK || certificate.Check(x.design, c) != api.OK || !slices.Equal(c.Verts, x.r.Solid.Verts) {
			t.Fatalf("W6: %d: %v", i, e)
		}
		bad := c
		bad.Depths = slices.Clone(c.Depths)
		k := i % len(bad.Depths)
		bad.Depths[k] = field.Add(bad.Depths[k], field.Of(1+i%2))
		less := c
		less.Verts = c.Verts[1:]
		if certificate.Check(x.design, bad) == api.OK || certificate.Check(x.design, less) == api.OK {
			t.Errorf("W6: %d", i)
		}
		s := clone.Solid(x.r.Solid)
		v := volume(t, s)
		if audit.Solid(s) != api.OK || audit.Volume(s, v) != api.OK || audit.Volume(s, field.Add(v, num("1/7"))) != api.ErrProof {
			t.Errorf("W13: %d", i)
		}
		s.Faces = s.Faces[:len(s.Faces)-1]
		deep := clone.Solid(x.r.Solid)
		deep.Planes[k].D = field.Add(deep.Planes[k].D, field.Of(1))
		if audit.Solid(s) != api.ErrProof || audit.Solid(deep) != api.ErrProof {
			t.Errorf("W13: %d: spoiled", i)
		}
	}
}

func TestLight(t *testing.T) { // W7
	r := rand.New(rand.NewSource(2))
	seen := refine.Count{}
	for i, x := range stones(t) {
		index, _ := interval.Ratio(13+r.Intn(13), 10)
		b, e := trace.Prepare(x.r.Solid, index)
		if e != api.OK {
			t.Fatal(e)
		}
		for range 40 {
			near := func() api.Interval {
				lo := (r.Intn(32) - 16) << 20
				return api.Interval{Lo: lo, Hi: lo + r.Intn(2)<<20}
			}
			c := cell.Cell{Face: r.Intn(len(b.Normals)), X: near(), Y: near()}
			if lies, e := cell.Covers(b, c); e != api.OK || lies != cell.On {
				continue
			}
			proof, e := lightproof.Prove(b, c, 3, 8)
			leaves, _ := refine.Leaves(b, c, 3, 8)
			claims, _ := lightproof.Claims(proof)
			if e != api.OK || lightproof.Check(b, c, proof) != api.OK || claims != refine.Counts(leaves) {
				t.Fatalf("W7: %d: %v", i, e)
			}
			seen = refine.Count{Returns: seen.Returns + claims.Returns, Leaks: seen.Leaks + claims.Leaks, Unknown: seen.Unknown + claims.Unknown}
			for k := range 16 {
				corner, _ := cell.Corner(c, k)
				p, _ := cell.Trace(b, corner, trace.MaxBounces)
				if claims.Returns == len(leaves) && p.Kind != trace.Returns || claims.Leaks == len(leaves) && p.Kind != trace.Leaks {
					t.Fatalf("W7: %d: corner %d", i, k)
				}
			}
			low, _ := refine.Share(b, c, 3, 8)
			high, _ := refine.Share(b, c, 5, 8)
			if high.Returns < 4*low.Returns || high.Leaks < 4*low.Leaks {
				t.Fatalf("W7: %d: %v %v", i, low, high)
			}
		}
	}
	if seen.Returns == 0 || seen.Leaks == 0 || seen.Unknown == 0 {
		t.Errorf("one-sided test: %v", seen)
	}
}

func TestTurning(t *testing.T) { // W12
	for i, x := range stones(t) {
		over := clone.Design(x.design)
		over, _, _ = resolve.Fixed(over)
		planes := []api.Plane{}
		for _, f := range x.r.Facets {
			s, e := transfer.Setting(f.At)
			p, _ := transfer.Plane(api.Plane{N: vector.Of(1, 0, 0), D: f.Depth})
			if e != api.OK {
				t.Fatal(e)
			}
			p.N = transfer.Over(x.r.Solid.Planes[len(planes)].N)
			planes = append(planes, p)
			a, exact, _ := settings.Slide(f.At)
			b, other, _ := settings.Slide(s)
			if a != b || exact != other {
				t.Errorf("W12: %d: %v", i, f.At)
			}
			for _, g := range x.r.Facets {
				o, _ := transfer.Setting(g.At)
				if settings.Steeper(f.At, g.At) != settings.Steeper(s, o) {
					t.Errorf("W12: %d: %v %v", i, f.At, g.At)
				}
			}
		}
		s, e1 := solid.Of(planes)
		want, e2 := transfer.Solid(x.r.Solid)
		if e1 != api.OK || e2 != api.OK || !reflect.DeepEqual(s, want) || volume(t, s) != volume(t, x.r.Solid) {
			t.Errorf("W12: %d: %v %v", i, e1, e2)
		}
	}
}

func TestConsole(t *testing.T) { // W15
	for i, x := range stones(t) {
		lines, _ := format.Lines(x.design)
		v := volume(t, x.r.Solid)
		w, _ := section.Width(x.r.Solid, i)
		half, _ := field.Ratio(1, 2)
		want := []string{"ok", field.Print(v), field.Print(w), field.Print(v), field.Print(field.Mul(v, half))}
		got := console.Run([]string{strings.Join(lines, " "), "volume", "width " + strconv.Itoa(i), "weight 1000", "weight 500"})
		if !slices.Equal(got, want) {
			t.Errorf("W15: %d: %v, want %v", i, got, want)
		}
	}
}
