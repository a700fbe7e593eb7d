package diagram

import (
	"math/big"
	"reflect"
	"slices"
	"strings"
	"testing"

	"culet/api"
	"culet/field"
	"culet/polygon"
	"culet/resolve"
	"culet/solid"
	"culet/syntax"
	"culet/tier"
	"culet/vector"
)

func num(s string) api.Num {
	x, _ := field.Parse(s)
	return x
}

func parse(t *testing.T, text string) api.Design {
	t.Helper()
	d, at, e := syntax.Parse(text)
	if e != api.OK {
		t.Fatal(text, at, e)
	}
	return d
}

const (
	pyramid   = "design pyramid order 4 tier B angle 0/-1 at 0 depth 0 tier C angle 1/1 at 0 depth 1"
	brilliant = `design brilliant order 8 mirror
		tier P angle 1/-1 at 0 depth 2
		tier G angle 1/0 at 0 edge P:0 P:3 height "-1/3"
		tier M angle 1/1 at 0 depth 2
		tier S angle 3/4 at 1 meet M:0 M:3 G:0
		tier T angle 0/1 at 0 edge S:1 S:2 height "9/10"`
)

func TestRows(t *testing.T) { // P20.1, P20.2, P20.5
	for _, text := range []string{pyramid, brilliant, "design x order 1"} {
		d := parse(t, text)
		rows, at, e := Rows(d)
		lines, at2, e2 := Lines(d)
		crown, girdle, pavilion, e3 := Counts(d)
		facets, _ := tier.Facets(d)
		if at != 0 || at2 != 0 || e != api.OK || e2 != api.OK || e3 != api.OK || len(rows) != len(d.Tiers) || len(lines) != len(rows) {
			t.Fatalf("P20.1: %s: %v %v %v", d.Name, e, e2, e3)
		}
		sums := map[int]int{}
		for i, r := range rows {
			x := d.Tiers[i]
			sums[r.Part] += r.Count
			if r.Tier != x.Name || r.H != x.H || r.V != x.V || r.Count != len(r.Positions) || !slices.Equal(r.Positions, tier.Positions(d.Order, d.Mirror, x)) {
				t.Errorf("P20.1: %s: %v", d.Name, r)
			}
			if !strings.HasPrefix(lines[i], r.Tier+": ") || !strings.HasSuffix(lines[i], "; "+r.Note) {
				t.Errorf("P20.5: %s", lines[i])
			}
			if f, _, e := syntax.Fix(r.Note); e != api.OK || !reflect.DeepEqual(f, x.Fix) {
				t.Errorf("P20.1: note %s", r.Note)
			}
		}
		if sums[1] != crown || sums[0] != girdle || sums[-1] != pavilion || crown+girdle+pavilion != len(facets) {
			t.Errorf("P20.2: %s: %d %d %d", d.Name, crown, girdle, pavilion)
		}
	}
	lines, _, _ := Lines(parse(t, pyramid))
	if !slices.Equal(lines, []string{"B: pavilion 1 at 0; 0/-1 (0.0000); depth 0", "C: crown 4 at 0, 6, 12, 18; 1/1 (1.0000); depth 1"}) {
		t.Errorf("P20.5: %q", lines)
	}
	lines, _, _ = Lines(parse(t, brilliant))
	if lines[1] != `G: girdle 8 at 0, 3, 6, 9, 12, 15, 18, 21; 1/0 (vertical); edge P:0 P:3 height "-1/3"` {
		t.Errorf("P20.5: %q", lines[1])
	}
}

func TestSlope(t *testing.T) { // P20.6
	for _, h := range []int{0, 1, 2, 7, 333, 999, 1000} {
		for _, v := range []int{1, -1, 3, -7, 999, 1000, -1000} {
			s, e := Slope(h, v)
			x, ok := new(big.Rat).SetString(s)
			want := big.NewRat(int64(h), int64(max(v, -v)))
			if e != api.OK || !ok || x.Cmp(want) > 0 || new(big.Rat).Add(x, big.NewRat(1, 10000)).Cmp(want) <= 0 || len(s)-strings.Index(s, ".") != 5 {
				t.Errorf("P20.6: %d/%d: %s", h, v, s)
			}
		}
		if s, e := Slope(h, 0); h > 0 && (s != "vertical" || e != api.OK) {
			t.Errorf("P20.6: %d/0: %s", h, s)
		}
	}
	for _, c := range [][2]int{{0, 0}, {-1, 1}, {1001, 1}, {1, 1001}, {1, -1001}, {1, -1 << 63}} {
		if s, e := Slope(c[0], c[1]); s != "" || e != api.ErrAngle {
			t.Errorf("P20.1: %v: %v", c, e)
		}
	}
	if s, _ := Slope(2, 3); s != "0.6666" {
		t.Errorf("P20.6: %s", s)
	}
}

func solids(t *testing.T) (l []api.Solid) {
	for _, text := range []string{pyramid, brilliant, "design x order 3 tier p angle 3/-1 at 1 depth 1 tier c angle 1/2 at 0 depth 1"} {
		r, _, e := resolve.Resolve(parse(t, text))
		if e != api.OK {
			t.Fatal(text, e)
		}
		shifted, _ := solid.Shift(r.Solid, vector.Of(3, -1, 2))
		l = append(l, r.Solid, shifted)
	}
	return l
}

func TestPlan(t *testing.T) { // P20.3, P20.4
	for i, s := range solids(t) {
		silhouette, e := Silhouette(s)
		whole, _ := Area(silhouette)
		if e != api.OK || !polygon.Valid(silhouette, vector.Of(0, 0, 1)) {
			t.Fatalf("P20.3: %d: %v", i, e)
		}
		for _, part := range []int{1, -1} {
			outlines, e := Plan(s, part)
			sum := num("0")
			last := -1
			for k, o := range outlines {
				area, _ := Area(o.Points)
				sum = field.Add(sum, area)
				f := s.Faces[o.Face]
				first := s.Verts[f.Loop[0]]
				if field.Sign(area) <= 0 || !polygon.Valid(o.Points, vector.Of(0, 0, 1)) || o.Face <= last || field.Sign(s.Planes[f.Plane].N.Z) != part || o.Points[0] != (api.Vec{X: first.X, Y: first.Y, Z: num("0")}) || len(o.Points) != len(f.Loop) {
					t.Errorf("P20.4: %d %d", i, k)
				}
				last = o.Face
				middle := vector.Of(0, 0, 0)
				for _, p := range o.Points {
					middle = vector.Add(middle, p)
				}
				share, _ := field.Ratio(1, len(o.Points))
				middle = vector.Scale(middle, share)
				if polygon.Contains(silhouette, vector.Of(0, 0, 1), middle) != -1 {
					t.Errorf("P20.4: %d %d: silhouette", i, k)
				}
				for j, other := range outlines {
					if j != k && polygon.Contains(other.Points, vector.Of(0, 0, 1), middle) != 1 {
						t.Errorf("P20.4: %d %d: also in %d", i, k, j)
					}
				}
			}
			if e != api.OK || sum != whole {
				t.Errorf("P20.3: %d part %d: %v", i, part, e)
			}
		}
	}
	silhouette, _ := Silhouette(solids(t)[0])
	if a, _ := Area(silhouette); a != num("4") || len(silhouette) != 4 {
		t.Error("P20.3: example")
	}
}

func TestErrors(t *testing.T) { // P20.1
	s := solids(t)[0]
	bad := s
	bad.Faces = nil
	o, e1 := Plan(bad, 7)
	l, e2 := Silhouette(bad)
	a, e3 := Area([]api.Vec{{}})
	if e1 != api.ErrArg || e2 != api.ErrArg || e3 != api.ErrArg || o != nil || l != nil || a != (api.Num{}) {
		t.Errorf("P20.1: %v %v %v", e1, e2, e3)
	}
	for _, part := range []int{0, 2, -2} {
		if o, e := Plan(s, part); o != nil || e != api.ErrRange {
			t.Errorf("P20.1: part %d: %v", part, e)
		}
	}
	if a, e := Area(nil); a != num("0") || e != api.OK {
		t.Errorf("P20.1: %v", e)
	}
	d := parse(t, brilliant)
	x := num(strings.Repeat("9", 60))
	d.Tiers[2].Fix.Depth = field.Mul(x, x)
	rows, at, e := Rows(d)
	lines, at2, e4 := Lines(d)
	if rows != nil || lines != nil || at != 2 || at2 != 2 || e != api.ErrLimit || e4 != api.ErrLimit {
		t.Errorf("P20.1: %d %v", at, e)
	}
	d.Tiers[3].H = 6
	c, g, p, e5 := Counts(d)
	if _, at, e := Rows(d); at != 3 || e != api.ErrAngle || e5 != api.ErrAngle || c+g+p != 0 {
		t.Errorf("P20.1: %d %v %v", at, e, e5)
	}
	if lines, at, e := Lines(d); lines != nil || at != 3 || e != api.ErrAngle {
		t.Errorf("P20.1: %d %v", at, e)
	}
}
