package cut

import (
	"math/rand"
	"reflect"
	"slices"
	"testing"

	"culet/api"
	"culet/field"
	"culet/plane"
	"culet/solid"
	"culet/vector"
)

func num(s string) api.Num {
	x, _ := field.Parse(s)
	return x
}

func vec(s string) api.Vec {
	v, _ := vector.Parse(s)
	return v
}

func of(n, d string) api.Plane { return api.Plane{N: vec(n), D: num(d)} }

func block(half int) api.Solid {
	s, _ := solid.Block(half)
	return s
}

func ring(h, v, start, step int, depth string) (l []api.Plane) {
	for i := start; i < 24; i += step {
		p, _ := plane.Of(api.Setting{H: h, V: v, Index: i}, num(depth))
		l = append(l, p)
	}
	return l
}

func knives() []api.Plane {
	return []api.Plane{of("(1, 1, 1)", "2"), of("(1, 0, 0)", "0"), of("(1, 0, 0)", "1"), of("(1, 1, 0)", "2"), of("(-1, r2, 1/3)", "1/2"), of("(0, 0, 1)", "5"), of("(1, 1, 1)", "-3"), of("(0, 1, 0)", "-1"), of("(2, 0, 0)", "3/2")}
}

func TestCut(t *testing.T) { // P8.1, P8.2, P8.4, P8.7
	corner, _, _ := Cut(block(1), knives()[0])
	if len(corner.Verts) != 10 || len(solid.Edges(corner)) != 15 || len(corner.Faces) != 7 {
		t.Error("P8.1: example")
	}
	r := rand.New(rand.NewSource(1))
	for i, s := range []api.Solid{block(1), corner} {
		for k, p := range knives() {
			out, changed, e := Cut(s, p)
			lost, _ := Lost(s, p)
			inner := slices.ContainsFunc(s.Verts, func(v api.Vec) bool { return plane.Side(p, v) < 0 })
			if !inner {
				if e != api.ErrEmpty || changed || len(out.Planes) > 0 {
					t.Errorf("P8.1: %d %d: %v", i, k, e)
				}
				continue
			}
			if e != api.OK || !solid.Valid(out) || changed != (len(lost) > 0) || out.Planes[len(out.Planes)-1] != p {
				t.Fatalf("P8.4: %d %d: %v %v", i, k, e, changed)
			}
			again, twice, _ := Cut(out, p)
			if twice || !solid.Equal(again, out) || !changed && !solid.Equal(out, s) {
				t.Errorf("P8.4: %d %d: again", i, k)
			}
			for range 20 {
				v := vector.Of(r.Intn(5)-2, r.Intn(5)-2, r.Intn(5)-2)
				v = vector.Scale(v, num("1/2"))
				if (solid.Contains(out, v) <= 0) != (solid.Contains(s, v) <= 0 && plane.Side(p, v) <= 0) {
					t.Fatalf("P8.2: %d %d: %s", i, k, vector.Print(v))
				}
			}
			checkVertices(t, s, out, p, lost)
		}
	}
}

func checkVertices(t *testing.T, s, out api.Solid, p api.Plane, lost []int) {
	t.Helper()
	for v, at := range s.Verts {
		if gone := slices.Contains(lost, v); gone != (plane.Side(p, at) > 0) || gone == slices.Contains(out.Verts, at) {
			t.Fatal("P8.7: vertex")
		}
	}
	for _, at := range out.Verts {
		if slices.Contains(s.Verts, at) {
			continue
		}
		onEdge := slices.ContainsFunc(solid.Edges(s), func(e [2]int) bool {
			a, b := s.Verts[e[0]], s.Verts[e[1]]
			return vector.Zero(vector.Cross(vector.Sub(at, a), vector.Sub(b, a)))
		})
		if plane.Side(p, at) != 0 || !onEdge {
			t.Fatal("P8.7: new vertex")
		}
	}
}

func TestOrder(t *testing.T) { // P8.3
	for _, p := range knives() {
		for _, q := range knives() {
			a, _, _ := Cut(block(1), p)
			b, _, _ := Cut(block(1), q)
			ab, _, e1 := Cut(a, q)
			ba, _, e2 := Cut(b, p)
			if len(a.Planes) == 0 || len(b.Planes) == 0 {
				continue
			}
			if e1 != e2 || e1 == api.OK && !solid.Equal(ab, ba) {
				t.Fatalf("P8.3: %v %v", e1, e2)
			}
		}
	}
}

func TestErrors(t *testing.T) { // P8.1
	s := block(1)
	bad := s
	bad.Faces = nil
	full, _ := solid.Of(slices.Repeat(s.Planes, 17)[:100])
	for i, c := range []struct {
		s api.Solid
		p api.Plane
		e api.Errno
	}{{bad, knives()[0], api.ErrArg}, {s, api.Plane{}, api.ErrArg}, {full, api.Plane{}, api.ErrArg}, {full, knives()[0], api.ErrLimit}, {full, knives()[6], api.ErrLimit}, {s, knives()[6], api.ErrEmpty}} {
		out, changed, e := Cut(c.s, c.p)
		if e != c.e || changed || !reflect.DeepEqual(out, api.Solid{}) {
			t.Errorf("P8.1: %d: %v", i, e)
		}
		if _, e := Lost(c.s, c.p); (e == api.ErrArg) != (c.e == api.ErrArg) {
			t.Errorf("P8.1: %d: Lost: %v", i, e)
		}
	}
	many := slices.Repeat(s.Planes, 16)
	for i, c := range []struct {
		l             []api.Plane
		e             api.Errno
		open, noSolid bool
	}{
		{s.Planes, api.OK, false, false}, {many[:94], api.OK, false, false}, {many[:95], api.ErrLimit, false, true}, {append(slices.Clone(many[:95]), api.Plane{}), api.ErrArg, false, true},
		{nil, api.ErrOpen, true, false}, {s.Planes[:5], api.ErrOpen, true, false}, {block(100).Planes, api.ErrOpen, true, false}, {block(101).Planes, api.ErrOpen, true, false}, {append(slices.Clone(s.Planes), of("(1, 0, 0)", "-1")), api.ErrEmpty, false, true},
		{[]api.Plane{of("(1, 0, 0)", "-100")}, api.ErrEmpty, false, true},
	} {
		out, e := All(c.l)
		l, e2 := Faceless(c.l)
		h, e3 := History(c.l)
		if e != c.e || e2 != c.e || e != api.OK && (len(out.Planes) > 0 || l != nil) {
			t.Errorf("P8.1: %d: %v %v", i, e, e2)
		}
		want := c.e
		if c.open {
			want = api.OK
		}
		if e3 != want || c.noSolid && h != nil || e3 == api.OK && len(h) != len(c.l) {
			t.Errorf("P8.6: %d: %v", i, e3)
		}
	}
}

func lists() [][]api.Plane {
	return [][]api.Plane{
		block(1).Planes, block(99).Planes,
		slices.Concat(block(2).Planes, knives()[:6]),
		slices.Concat(ring(1, 1, 0, 6, "1"), []api.Plane{of("(0, 0, -1)", "0"), of("(0, 0, 1)", "1"), of("(0, 0, 1)", "1/2"), of("(0, 0, 3)", "3/2")}),
		slices.Concat(ring(4, 3, 0, 3, "9/2"), ring(1, 0, 0, 3, "1"), ring(3, -4, 0, 3, "4")),
	}
}

func TestStones(t *testing.T) { // P8.5, P8.6
	for i, l := range lists() {
		s, e := All(l)
		want, _ := solid.Of(l)
		if e != api.OK || !reflect.DeepEqual(s, want) || !solid.Valid(s) {
			t.Fatalf("P8.5: %d: %v", i, e)
		}
		faceless, _ := Faceless(l)
		with := map[int]bool{}
		for _, f := range s.Faces {
			with[f.Plane] = true
		}
		for k := range l {
			if with[k] == slices.Contains(faceless, k) {
				t.Errorf("P8.1: %d: Faceless %v", i, faceless)
			}
		}
		history, _ := History(l)
		now := block(api.BlockHalf)
		for k, p := range l {
			next, changed, _ := Cut(now, p)
			h := history[k]
			if h.Verts+h.Faces != h.Edges+2 || h != (Step{changed, len(next.Verts), len(solid.Edges(next)), len(next.Faces)}) {
				t.Fatalf("P8.6: %d %d: %v", i, k, h)
			}
			now = next
		}
		if last := history[len(l)-1]; last.Verts != len(s.Verts) || last.Faces != len(s.Faces) || !slices.Equal(now.Verts, s.Verts) {
			t.Errorf("P8.6: %d: last", i)
		}
	}
	if l, _ := Faceless(lists()[3]); !slices.Equal(l, []int{5, 7}) {
		t.Errorf("P8.1: Faceless: %v", l)
	}
}
