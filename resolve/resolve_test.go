package resolve

import (
	"reflect"
	"slices"
	"testing"

	"culet/api"
	"culet/clone"
	"culet/cut"
	"culet/field"
	"culet/plane"
	"culet/solid"
	"culet/syntax"
	"culet/vector"
	"culet/wheel"
)

func num(s string) api.Num {
	x, _ := field.Parse(s)
	return x
}

func parse(t testing.TB, text string) api.Design {
	t.Helper()
	d, at, e := syntax.Parse(text)
	if e != api.OK {
		t.Fatal(text, at, e)
	}
	return d
}

const (
	cube    = "design cube order 4 tier top angle 0/1 at 0 depth 1 tier bottom angle 0/-1 at 0 depth 1 tier side angle 1/0 at 0 depth 1"
	pyramid = "design pyramid order 4 tier B angle 0/-1 at 0 depth 0 tier C angle 1/1 at 0 depth 1"
	// brilliant has meets, levels and a point.
	brilliant = `design brilliant order 8 mirror
		tier P angle 1/-1 at 0 depth 2
		tier G angle 1/0 at 0 edge P:0 P:3 height "-1/3"
		tier M angle 1/1 at 0 depth 2
		tier S angle 3/4 at 1 meet M:0 M:3 G:0
		tier T angle 0/1 at 0 edge S:1 S:2 height "9/10"`
	table = `design table order 6
		tier p angle 2/-1 at 0 through 0 0 -1
		tier g angle 1/0 at 0 edge p:0 p:4 height "-1/4"
		tier c angle 1/1 at 0 edge g:0 g:4 height 0
		tier t angle 0/1 at 0 edge c:0 c:4 height "1/5"`
)

func designs(t *testing.T) (l []api.Design) {
	for _, text := range []string{cube, pyramid, brilliant, table} {
		l = append(l, parse(t, text))
	}
	return l
}

func resolved(t *testing.T, d api.Design) api.Resolved {
	t.Helper()
	r, at, e := Resolve(d)
	if at != 0 || e != api.OK {
		t.Fatalf("P18.1: %s: %d %v", d.Name, at, e)
	}
	return r
}

func TestMeets(t *testing.T) { // P18.1, P18.2
	for _, d := range designs(t) {
		r := resolved(t, d)
		depths, _, _ := Depths(d)
		facets, _, _ := Facets(d)
		points, _, _ := Points(d)
		at, _, e := Vertices(d)
		if e != api.OK || !slices.Equal(facets, r.Facets) || len(depths) != len(d.Tiers) || len(r.Solid.Faces) != len(r.Facets) || !solid.Valid(r.Solid) {
			t.Fatalf("P18.2: %s", d.Name)
		}
		for i, f := range r.Facets {
			p, _ := plane.Of(f.At, f.Depth)
			k := slices.IndexFunc(d.Tiers, func(x api.Tier) bool { return x.Name == f.Tier })
			if r.Solid.Planes[i] != p || f.Depth != depths[k] {
				t.Errorf("P18.2: %s: facet %d", d.Name, i)
			}
		}
		for i, x := range d.Tiers {
			if x.Fix.Kind == api.FixDepth {
				if points[i] != (api.Vec{}) || at[i] != -1 {
					t.Errorf("P18.1: %s: %d has a point", d.Name, i)
				}
				continue
			}
			first, _ := plane.Of(api.Setting{H: x.H, V: x.V, Index: x.Indices[0]}, depths[i])
			if plane.Side(first, points[i]) != 0 {
				t.Errorf("P18.2: %s: %d", d.Name, i)
			}
			if at[i] >= 0 && r.Solid.Verts[at[i]] != points[i] || at[i] < 0 && slices.Contains(r.Solid.Verts, points[i]) {
				t.Errorf("P18.1: %s: Vertices %d", d.Name, i)
			}
			if x.Fix.Kind == api.FixMeet && at[i] < 0 {
				t.Errorf("P18.2: %s: %d is no vertex", d.Name, i)
			}
		}
	}
}

func TestExamples(t *testing.T) { // P18.1
	r := resolved(t, parse(t, cube))
	if len(r.Solid.Verts) != 8 || len(r.Facets) != 6 {
		t.Error("P18.1: cube")
	}
	r = resolved(t, parse(t, pyramid))
	if len(r.Solid.Verts) != 5 || !slices.Contains(r.Solid.Verts, vector.Of(0, 0, 1)) || !slices.Contains(r.Solid.Verts, vector.Of(1, 1, 0)) {
		t.Error("P18.1: pyramid")
	}
}

func TestFaults(t *testing.T) { // P18.1
	for _, c := range []struct {
		text       string
		at         int
		e          api.Errno
		depths, ok bool
	}{
		{"design x order 5", -1, api.ErrRange, false, false},
		{"design x order 4 tier a angle 2/2 at 0 depth 1", 0, api.ErrAngle, false, false},
		{"design x order 4", 0, api.ErrOpen, true, false},
		{"design x order 4 tier C angle 1/1 at 0 depth 1", 1, api.ErrOpen, true, false},
		{"design x order 4 tier C angle 1/1 at 0 depth 1 tier T angle 0/1 at 0 meet C:0 C:6 C:7", 1, api.ErrName, false, false},
		{"design x order 4 tier C angle 1/0 at 0 depth 1 tier T angle 0/1 at 0 meet C:0 C:6 C:12", 1, api.ErrParallel, false, false},
		{pyramid + " tier D angle 2/1 at 0 depth -7", 3, api.ErrEmpty, true, false},
		{"design x order 4 tier a angle 0/1 at 0 depth 9 tier B angle 0/-1 at 0 depth 0 tier C angle 1/1 at 0 depth 1 tier D angle 2/1 at 0 depth 9", 0, api.ErrNone, true, false},
		{pyramid + " tier D angle 2/1 at 0 depth 2", 2, api.ErrNone, true, false},
		{cube + ` tier c angle 1/1 at 3 through "r2" "r2" 0`, 3, api.ErrMeet, true, false},
		{cube + ` tier c angle 1/1 at 3 through "3/2" "1/2" "2-r2"`, 3, api.ErrMeet, true, false},
		{cube + " tier c angle 1/1 at 0 edge side:0 side:6 height 2", 3, api.ErrNone, true, false},
		{cube + ` tier c angle 1/1 at 3 edge side:0 side:6 height "9/10" tier d angle 2/1 at 3 through 3 3 "-7"`, 3, api.ErrNone, true, false},
		{cube + ` tier c angle 1/1 at 3 edge side:0 side:6 height "9/10" tier d angle 2/1 at 3 edge side:0 side:6 height "19/20"`, 4, api.ErrNone, true, false},
		{cube, 0, api.OK, true, true},
	} {
		d := parse(t, c.text)
		r, at, e := Resolve(d)
		if at != c.at || e != c.e || !c.ok && !reflect.DeepEqual(r, api.Resolved{}) {
			t.Errorf("P18.1: %s: %d %v", c.text, at, e)
		}
		l, at2, e2 := Vertices(d)
		if at2 != c.at || e2 != c.e || !c.ok && l != nil {
			t.Errorf("P18.1: %s: Vertices %d %v", c.text, at2, e2)
		}
		depths, at3, e3 := Depths(d)
		facets, at4, e4 := Facets(d)
		points, at5, e5 := Points(d)
		f, at6, e6 := Fixed(d)
		_, e7 := Stage(d, 0)
		if c.depths {
			if e3 != api.OK || e4 != api.OK || e5 != api.OK || e6 != api.OK || e7 != api.OK || at3 != 0 || at4 != 0 || at5 != 0 || at6 != 0 {
				t.Errorf("P18.1: %s: %v %v %v %v", c.text, e3, e4, e5, e6)
			}
		} else if e3 != c.e || e4 != c.e || e5 != c.e || e6 != c.e || e7 != c.e || at3 != c.at || at4 != c.at || at5 != c.at || at6 != c.at || depths != nil || facets != nil || points != nil || f.Name != "" {
			t.Errorf("P18.1: %s: %v %v %v %v", c.text, e3, e4, e5, e6)
		}
	}
}

func TestFixed(t *testing.T) { // P18.3, P18.4
	for _, d := range designs(t) {
		r := resolved(t, d)
		f, _, e := Fixed(d)
		if e != api.OK || !reflect.DeepEqual(resolved(t, f), r) {
			t.Errorf("P18.3: %s", d.Name)
		}
		a, _, _ := Depths(d)
		b, _, _ := Depths(f)
		if !slices.Equal(a, b) {
			t.Errorf("P18.3: %s: depths", d.Name)
		}
		back := clone.Design(f)
		slices.Reverse(back.Tiers)
		if !slices.Equal(resolved(t, back).Solid.Verts, r.Solid.Verts) {
			t.Errorf("P18.4: %s", d.Name)
		}
		f.Tiers[0].Indices[0] = 77
		if d.Tiers[0].Indices[0] == 77 {
			t.Errorf("P18.1: %s: shared memory", d.Name)
		}
	}
}

func TestScaling(t *testing.T) { // P18.5
	k := num("2/3r3")
	for _, d := range designs(t) {
		r := resolved(t, d)
		s := clone.Design(d)
		for i := range s.Tiers {
			f := &s.Tiers[i].Fix
			switch f.Kind {
			case api.FixDepth, api.FixLevel:
				f.Depth = field.Mul(f.Depth, k)
			case api.FixPoint:
				f.Point = vector.Scale(f.Point, k)
			}
		}
		q := resolved(t, s)
		for i, v := range r.Solid.Verts {
			if q.Solid.Verts[i] != vector.Scale(v, k) {
				t.Fatalf("P18.5: %s", d.Name)
			}
		}
		if !reflect.DeepEqual(q.Solid.Faces, r.Solid.Faces) {
			t.Errorf("P18.5: %s: faces", d.Name)
		}
	}
}

func TestStages(t *testing.T) { // P18.6, W1
	for _, d := range designs(t) {
		r := resolved(t, d)
		before, _ := Stage(d, 0)
		for k := 1; k <= len(r.Facets); k++ {
			s, e := Stage(d, k)
			if e != api.OK || len(s.Planes) != k+6 {
				t.Fatalf("P18.6: %s: %v", d.Name, e)
			}
			for _, v := range s.Verts {
				for _, p := range r.Solid.Planes[:k] {
					if plane.Side(p, v) > 0 {
						t.Fatalf("P18.6: %s: outside", d.Name)
					}
				}
				if plane.Side(before.Planes[k-1], v) > 0 {
					t.Fatalf("P18.6: %s: outside of the earlier stage", d.Name)
				}
			}
			before = s
		}
		if !slices.Equal(before.Verts, r.Solid.Verts) {
			t.Errorf("P18.6: %s: last stage", d.Name)
		}
		back := slices.Clone(r.Solid.Planes)
		slices.Reverse(back)
		a, e1 := cut.All(r.Solid.Planes)
		b, e2 := cut.All(back)
		if e1 != api.OK || e2 != api.OK || !slices.Equal(a.Verts, r.Solid.Verts) || !slices.Equal(b.Verts, r.Solid.Verts) {
			t.Errorf("W1: %s: %v %v", d.Name, e1, e2)
		}
		motions, _ := wheel.Motions(d.Order, d.Mirror)
		for _, m := range motions {
			if moved, _ := solid.Move(r.Solid, m); !slices.Equal(moved.Verts, r.Solid.Verts) {
				t.Errorf("W2: %s: %v", d.Name, m)
			}
		}
		for _, k := range []int{-1, len(r.Facets) + 1} {
			if s, e := Stage(d, k); e != api.ErrRange || len(s.Planes) > 0 {
				t.Errorf("P18.1: %s: stage %d: %v", d.Name, k, e)
			}
		}
	}
	far := parse(t, "design x order 4 tier a angle 0/1 at 0 depth -100")
	if s, e := Stage(far, 1); e != api.ErrEmpty || len(s.Planes) > 0 {
		t.Errorf("P18.6: %v", e)
	}
}
