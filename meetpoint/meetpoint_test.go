package meetpoint

import (
	"slices"
	"strings"
	"testing"

	"culet/api"
	"culet/field"
	"culet/plane"
	"culet/syntax"
	"culet/vector"
	"culet/wheel"
)

func num(s string) api.Num {
	x, _ := field.Parse(s)
	return x
}

func fix(s string) api.Fix {
	f, _, _ := syntax.Fix(s)
	return f
}

func facets() []api.Facet {
	l := []api.Facet{}
	add := func(name string, h, v int, depth string, indices ...int) {
		for _, i := range indices {
			l = append(l, api.Facet{Tier: name, At: api.Setting{H: h, V: v, Index: i}, Depth: num(depth)})
		}
	}
	add("c", 1, 1, "3/2", 0, 6, 12, 18)
	add("g", 1, 0, "r2", 1, 7, 13, 19)
	add("p", 3, -4, "5", 2, 3, 10, 11)
	add("t", 0, 1, "1")
	l = append(l, api.Facet{Tier: "t", At: api.Setting{V: 1}, Depth: num("1")}, api.Facet{Tier: "c", At: api.Setting{H: 9, V: 1, Index: 6}, Depth: num("0")})
	return l
}

func fixes() []string {
	return []string{"meet c:0 c:6 c:12", "meet c:0 g:1 p:3", "meet p:2 p:3 t:0", "edge c:0 g:7 height \"1/3r6\"", "edge p:2 p:11 height -2", "through 1 \"r2\" -3"}
}

func settings() []api.Setting {
	return []api.Setting{{V: 1}, {V: -1}, {H: 1, V: 1, Index: 6}, {H: 4, V: -3, Index: 5}, {H: 1, Index: 23}}
}

func TestMeets(t *testing.T) { // P17.1, P17.2
	l := facets()
	for _, s := range fixes() {
		f := fix(s)
		v, e := Point(l, f)
		if e != api.OK || !vector.Valid(v) {
			t.Fatalf("P17.2: %s: %v", s, e)
		}
		for _, r := range f.Refs {
			i := slices.IndexFunc(l, func(g api.Facet) bool { return g.Tier == r.Tier && g.At.Index == r.Index })
			p, _ := Plane(l[i])
			if plane.Side(p, v) != 0 {
				t.Errorf("P17.2: %s: not in %v", s, r)
			}
		}
		if f.Kind == api.FixLevel && v.Z != f.Depth || f.Kind == api.FixPoint && v != f.Point {
			t.Errorf("P17.2: %s: %s", s, vector.Print(v))
		}
		for _, at := range settings() {
			d, e := Depth(l, at, f)
			p, _ := plane.Of(at, d)
			if e != api.OK || plane.Side(p, v) != 0 {
				t.Errorf("P17.2: %s at %v: %v", s, at, e)
			}
		}
	}
	if v, _ := Point(l, fix(fixes()[0])); vector.Print(v) != "(0, 0, 3/2)" {
		t.Errorf("P17.2: example: %s", vector.Print(v))
	}
	if d, e := Depth(l, settings()[0], fix("depth \"2/3\"")); d != num("2/3") || e != api.OK {
		t.Errorf("P17.2: FixDepth: %v", e)
	}
}

func TestTurning(t *testing.T) { // P17.3
	l := facets()
	for turn := range 24 {
		moved := slices.Clone(l)
		for i := range moved {
			if moved[i].At.H > 0 {
				moved[i].At.Index = (moved[i].At.Index + turn) % 24
			}
		}
		for _, s := range fixes()[:5] {
			f := fix(s)
			g := fix(s)
			for i := range g.Refs {
				if g.Refs[i].Tier != "t" {
					g.Refs[i].Index = (g.Refs[i].Index + turn) % 24
				}
			}
			v, _ := Point(l, f)
			w, e := Point(moved, g)
			if e != api.OK || w != wheel.Turn(v, turn) {
				t.Fatalf("P17.3: %s by %d: %v", s, turn, e)
			}
			at := api.Setting{H: 4, V: 3, Index: 5}
			d, _ := Depth(l, at, f)
			at.Index = (5 + turn) % 24
			if dd, _ := Depth(moved, at, g); dd != d {
				t.Fatalf("P17.3: %s by %d: depth", s, turn)
			}
		}
	}
}

func TestScaling(t *testing.T) { // P17.4, P17.5
	l := facets()
	for _, factor := range []string{"2", "-1/3", "r2-r6"} {
		k := num(factor)
		scaled := slices.Clone(l)
		for i := range scaled {
			scaled[i].Depth = field.Mul(scaled[i].Depth, k)
		}
		more := append(slices.Clone(scaled), scaled[0], api.Facet{Tier: "z", At: api.Setting{H: 1}, Depth: num("0")})
		for _, s := range fixes() {
			f := fix(s)
			g := fix(s)
			if g.Kind == api.FixLevel {
				g.Depth = field.Mul(g.Depth, k)
			}
			if g.Kind == api.FixPoint {
				g.Point = vector.Scale(g.Point, k)
			}
			v, _ := Point(l, f)
			w, e := Point(scaled, g)
			u, _ := Point(more, g)
			a, _ := Depth(l, settings()[3], f)
			b, _ := Depth(scaled, settings()[3], g)
			c, _ := Depth(more, settings()[3], g)
			if e != api.OK || w != vector.Scale(v, k) || b != field.Mul(a, k) {
				t.Errorf("P17.4: %s by %s: %v", s, factor, e)
			}
			if u != w || c != b {
				t.Errorf("P17.5: %s", s)
			}
		}
	}
}

func TestSides(t *testing.T) { // P17.1
	l := facets()
	for _, s := range fixes() {
		v, _ := Point(l, fix(s))
		on, e1 := On(l, v)
		outside, e2 := Outside(l, v)
		if e1 != api.OK || e2 != api.OK {
			t.Fatal(e1, e2)
		}
		for i, f := range l {
			p, _ := Plane(f)
			side := plane.Side(p, v)
			if (side == 0) != slices.Contains(on, i) || (side == 1) != slices.Contains(outside, i) {
				t.Errorf("P17.1: %s: %d", s, i)
			}
		}
		if !slices.IsSorted(on) || !slices.IsSorted(outside) {
			t.Errorf("P17.1: %s: order", s)
		}
	}
}

func TestErrors(t *testing.T) { // P17.1
	l := facets()
	good := fix("meet c:0 c:6 c:12")
	for i, bad := range []api.Facet{{Tier: "x", At: api.Setting{H: 1}}, {Tier: "x", At: api.Setting{H: 2, V: 2}, Depth: num("1")}, {Tier: "x", At: api.Setting{H: 1, Index: 24}, Depth: num("1")}} {
		spoiled := append(slices.Clone(l), bad)
		p, e1 := Plane(bad)
		ps, e2 := Planes(spoiled)
		v, e3 := Point(spoiled, fix("depth 1"))
		_, e4 := Depth(spoiled, settings()[0], good)
		_, e5 := On(spoiled, vector.Of(0, 0, 0))
		_, e6 := Outside(spoiled, vector.Of(0, 0, 0))
		for k, e := range []api.Errno{e1, e2, e3, e4, e5, e6} {
			if e != api.ErrArg {
				t.Errorf("P17.1: %d %d: %v", i, k, e)
			}
		}
		if p != (api.Plane{}) || ps != nil || v != (api.Vec{}) {
			t.Errorf("P17.1: %d: results", i)
		}
	}
	for i, c := range []struct {
		f api.Fix
		e api.Errno
	}{
		{api.Fix{}, api.ErrArg}, {api.Fix{Kind: api.FixMeet, Refs: good.Refs[:2]}, api.ErrArg}, {api.Fix{Kind: api.FixDepth}, api.ErrArg}, {fix("depth 1"), api.ErrNone}, {fix("meet c:0 c:6 x:0"), api.ErrName}, {fix("meet c:0 c:6 c:1"), api.ErrName}, {fix("meet c:0 c:0 c:24"), api.ErrName}, {fix("meet c:0 c:0 c:6"), api.ErrParallel}, {fix("edge c:0 t:0 height 1"), api.ErrParallel}, {fix("meet g:1 g:7 g:13"), api.ErrParallel},
	} {
		v, e := Point(l, c.f)
		d, e2 := Depth(l, settings()[0], c.f)
		if e != c.e || v != (api.Vec{}) {
			t.Errorf("P17.1: %d: %v", i, e)
		}
		if c.e != api.ErrNone && (e2 != c.e || d != (api.Num{})) {
			t.Errorf("P17.1: %d: depth: %v", i, e2)
		}
	}
	for _, s := range []api.Setting{{}, {H: 2, V: 4}, {H: 1, Index: 24}, {V: 1, Index: 3}} {
		for _, f := range []api.Fix{fix("depth 1"), fix("meet c:0 c:6 x:0")} {
			if d, e := Depth(l, s, f); d != (api.Num{}) || e != api.ErrArg {
				t.Errorf("P17.1: %v: %v", s, e)
			}
		}
	}
	if _, e := On(l, api.Vec{}); e != api.ErrArg {
		t.Errorf("P17.1: On: %v", e)
	}
	if _, e := Outside(l, api.Vec{}); e != api.ErrArg {
		t.Errorf("P17.1: Outside: %v", e)
	}
	// The text of a number may be too long; the fix can be written all the same.
	x := num(strings.Repeat("9", 60))
	if d, e := Depth(nil, settings()[0], api.Fix{Kind: api.FixDepth, Depth: field.Mul(x, x)}); d != field.Mul(x, x) || e != api.OK {
		t.Errorf("P17.1: long depth: %v", e)
	}
}
