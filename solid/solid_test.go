package solid

import (
	"math/rand"
	"reflect"
	"slices"
	"testing"

	"culet/api"
	"culet/clone"
	"culet/field"
	"culet/plane"
	"culet/polygon"
	"culet/vector"
	"culet/wheel"
)

func num(s string) api.Num {
	x, _ := field.Parse(s)
	return x
}

func vec(s string) api.Vec {
	v, _ := vector.Parse(s)
	return v
}

func of(n, d string) api.Plane { return api.Plane{N: vec(n), D: num(d)} }

func ring(h, v, start, step int, depth string) (l []api.Plane) {
	for i := start; i < 24; i += step {
		p, _ := plane.Of(api.Setting{H: h, V: v, Index: i}, num(depth))
		l = append(l, p)
	}
	return l
}

func flat(v int, depth string) api.Plane {
	p, _ := plane.Of(api.Setting{V: v}, num(depth))
	return p
}

func brilliant() []api.Plane {
	return slices.Concat([]api.Plane{flat(1, "1/3")}, ring(4, 3, 0, 3, "9/2"), ring(1, 0, 1, 2, "1+1/100r2"), ring(3, -4, 0, 3, "4"))
}

func solids(t testing.TB) []api.Solid {
	t.Helper()
	block, _ := Block(1)
	lists := [][]api.Plane{
		block.Planes,
		{of("(1, 1, 1)", "1"), of("(-1, 0, 0)", "0"), of("(0, -1, 0)", "0"), of("(0, 0, -1)", "0")},
		slices.Concat(ring(1, 1, 0, 6, "1"), []api.Plane{flat(-1, "0")}),
		slices.Concat(ring(1, 1, 0, 6, "1"), ring(1, -1, 0, 6, "1")),
		append(slices.Clone(block.Planes), of("(1, 1, 1)", "2")),
		append(slices.Clone(block.Planes), of("(1, 1, 1)", "3"), of("(1, 1, 0)", "2"), of("(2, 0, 0)", "2"), of("(1, 0, 0)", "7")),
		slices.Concat(ring(1, 0, 0, 1, "1"), []api.Plane{flat(1, "1/2"), flat(-1, "r3")}),
		brilliant(),
	}
	l := []api.Solid{}
	for i, planes := range lists {
		s, e := Of(planes)
		if e != api.OK {
			t.Fatalf("%d: %v", i, e)
		}
		l = append(l, s)
	}
	return l
}

// plain finds the vertices by all triples of planes.
func plain(planes []api.Plane) (l []api.Vec) {
	for i := range planes {
		for j := range i {
			for k := range j {
				v, e := plane.Meet(planes[i], planes[j], planes[k])
				outside := func(p api.Plane) bool { return plane.Side(p, v) > 0 }
				if e == api.OK && !slices.ContainsFunc(planes, outside) && !slices.Contains(l, v) {
					l = append(l, v)
				}
			}
		}
	}
	slices.SortFunc(l, vector.Cmp)
	return l
}

// plainClosed is the definition by the directions of all pairs.
func plainClosed(planes []api.Plane) bool {
	halves := []half{}
	for _, p := range planes {
		halves = append(halves, whole(p))
	}
	return closed(halves)
}

func TestRandom(t *testing.T) { // P7.1, P7.4
	r := rand.New(rand.NewSource(1))
	seen := map[api.Errno]int{}
	for range 400 {
		planes := []api.Plane{}
		for len(planes) < 4+r.Intn(9) {
			n := vector.Of(r.Intn(5)-2, r.Intn(5)-2, r.Intn(5)-2)
			if !vector.Zero(n) {
				planes = append(planes, api.Plane{N: n, D: field.Of(r.Intn(6) - 1)})
			}
		}
		s, e := Of(planes)
		seen[e]++
		switch e {
		case api.OK:
			if !plainClosed(planes) || !slices.Equal(s.Verts, plain(planes)) || !Valid(s) {
				t.Fatalf("P7.1: %v", planes)
			}
			checkRecord(t, s)
			back := slices.Clone(planes)
			slices.Reverse(back)
			if o, _ := Of(back); !slices.Equal(o.Verts, s.Verts) || len(o.Faces) != len(s.Faces) {
				t.Fatal("P7.4: order")
			}
		case api.ErrEmpty:
			if !plainClosed(planes) || hasInner(planes, plain(planes)) {
				t.Fatal("P7.1: not empty")
			}
		case api.ErrOpen:
			if plainClosed(planes) {
				t.Fatal("P7.1: closed")
			}
		}
		if e != api.OK && !reflect.DeepEqual(s, api.Solid{}) {
			t.Fatal("P7.1: result with an error")
		}
	}
	if seen[api.OK] < 20 || seen[api.ErrEmpty] < 20 || seen[api.ErrOpen] < 20 {
		t.Errorf("P7.1: %v", seen)
	}
}

func hasInner(planes []api.Plane, verts []api.Vec) bool {
	for _, p := range planes {
		if !slices.ContainsFunc(verts, func(v api.Vec) bool { return plane.Side(p, v) < 0 }) {
			return false
		}
	}
	return true
}

func middle(l ...api.Vec) api.Vec {
	sum := vector.Of(0, 0, 0)
	for _, p := range l {
		sum = vector.Add(sum, p)
	}
	k, _ := field.Ratio(1, len(l))
	return vector.Scale(sum, k)
}

// checkRecord checks a record by its definition.
func checkRecord(t *testing.T, s api.Solid) {
	t.Helper()
	edges := Edges(s)
	if len(s.Verts)+len(s.Faces) != len(edges)+2 {
		t.Fatal("P7.2: Euler")
	}
	ends := map[[2]int]int{}
	degree := map[int]int{}
	for i, f := range s.Faces {
		if i > 0 && s.Faces[i-1].Plane >= f.Plane || f.Loop[0] != slices.Min(f.Loop) {
			t.Fatal("P7.1: order of faces")
		}
		l, _ := Polygon(s, i)
		if !polygon.Valid(l, s.Planes[f.Plane].N) {
			t.Fatal("P7.1: polygon")
		}
		for j := range f.Plane {
			if plane.Same(s.Planes[j], s.Planes[f.Plane]) {
				t.Fatal("P7.1: repeated plane")
			}
		}
		for v, p := range s.Verts {
			if (plane.Side(s.Planes[f.Plane], p) == 0) != slices.Contains(f.Loop, v) {
				t.Fatal("P7.1: vertices of a face")
			}
		}
		for k, v := range f.Loop {
			ends[[2]int{v, f.Loop[(k+1)%len(f.Loop)]}]++
			degree[v]++
		}
	}
	for _, e := range edges {
		if e[0] >= e[1] || ends[e] != 1 || ends[[2]int{e[1], e[0]}] != 1 {
			t.Fatal("P7.2: edges")
		}
	}
	for v, p := range s.Verts {
		if degree[v] < 3 || Contains(s, p) != 0 {
			t.Fatal("P7.2: vertices")
		}
	}
	if Contains(s, middle(s.Verts...)) != -1 {
		t.Fatal("P7.3: middle")
	}
}

func TestRecords(t *testing.T) { // P7.1, P7.2, P7.3
	for i, s := range solids(t) {
		checkRecord(t, s)
		if !slices.Equal(s.Verts, plain(s.Planes)) || !slices.IsSortedFunc(s.Verts, vector.Cmp) {
			t.Errorf("P7.1: %d", i)
		}
		for k := range s.Faces {
			around, e := Around(s, k)
			for j, other := range around {
				a, b := s.Faces[k].Loop[j], s.Faces[k].Loop[(j+1)%len(around)]
				if e != api.OK || other == k || !slices.Contains(s.Faces[other].Loop, a) || !slices.Contains(s.Faces[other].Loop, b) {
					t.Errorf("P7.2: %d: around %d", i, k)
				}
			}
		}
		inside := middle(s.Verts...)
		for _, p := range s.Verts {
			if Contains(s, middle(p, inside)) != -1 || Contains(s, middle(p, s.Verts[0])) == 1 || Contains(s, vector.Sub(vector.Scale(p, field.Of(2)), inside)) != 1 {
				t.Errorf("P7.3: %d", i)
			}
		}
	}
}

func TestErrors(t *testing.T) { // P7.1
	block, _ := Block(1)
	many := slices.Repeat(block.Planes, 17)
	for i, c := range []struct {
		l []api.Plane
		e api.Errno
	}{
		{nil, api.ErrOpen}, {block.Planes[:5], api.ErrOpen}, {block.Planes[:1], api.ErrOpen}, {[]api.Plane{flat(1, "1"), flat(-1, "1")}, api.ErrOpen}, {ring(1, 0, 0, 2, "1"), api.ErrOpen},
		{append(slices.Clone(block.Planes), flat(1, "-1")), api.ErrEmpty}, {append(slices.Clone(block.Planes), flat(1, "-2")), api.ErrEmpty}, {append(slices.Clone(block.Planes[:5]), flat(1, "-2")), api.ErrOpen},
		{append(slices.Clone(block.Planes), of("(1, 1, 0)", "-2")), api.ErrEmpty}, {append(slices.Clone(block.Planes), of("(1, 1, 1)", "-3")), api.ErrEmpty},
		{many[:100], api.OK}, {many[:101], api.ErrLimit}, {append(slices.Clone(many[:101]), api.Plane{}), api.ErrArg}, {[]api.Plane{{}}, api.ErrArg},
		{append(slices.Clone(block.Planes[:4]), flat(1, "-1"), flat(-1, "1")), api.ErrEmpty},
	} {
		if s, e := Of(c.l); e != c.e || e != api.OK && len(s.Planes) > 0 {
			t.Errorf("P7.1: %d: %v", i, e)
		}
	}
	for half, want := range map[int]api.Errno{0: api.ErrRange, -1: api.ErrRange, 1: api.OK, 1000000: api.OK, 1000001: api.ErrRange} {
		if _, e := Block(half); e != want {
			t.Errorf("P7.1: Block(%d): %v", half, e)
		}
	}
	if b, _ := Block(1); !slices.Equal(b.Faces[0].Loop, []int{4, 6, 7, 5}) || len(b.Verts) != 8 || len(Edges(b)) != 12 || len(b.Faces) != 6 {
		t.Errorf("P7.1: block: %v", b.Faces)
	}
	if l, _ := Around(block, 0); !slices.Equal(l, []int{5, 2, 4, 3}) {
		t.Errorf("P7.1: around: %v", l)
	}
	for _, f := range []int{-1, 6} {
		_, e1 := Around(block, f)
		_, e2 := Polygon(block, f)
		if e1 != api.ErrRange || e2 != api.ErrRange {
			t.Errorf("P7.1: face %d: %v %v", f, e1, e2)
		}
	}
}

// spoiled returns records that are a little wrong.
func spoiled(s api.Solid) (l []api.Solid) {
	change := func(f func(s *api.Solid)) {
		c := clone.Solid(s)
		f(&c)
		l = append(l, c)
	}
	change(func(s *api.Solid) { s.Faces = s.Faces[1:] })
	change(func(s *api.Solid) { s.Verts = s.Verts[1:] })
	change(func(s *api.Solid) { s.Planes = s.Planes[1:] })
	change(func(s *api.Solid) { s.Planes[0].D = field.Add(s.Planes[0].D, num("1/100")) })
	change(func(s *api.Solid) { s.Planes[0] = api.Plane{} })
	change(func(s *api.Solid) { s.Verts[0] = api.Vec{} })
	change(func(s *api.Solid) { s.Verts[0], s.Verts[1] = s.Verts[1], s.Verts[0] })
	change(func(s *api.Solid) { s.Faces[0].Loop[0] = 99 })
	change(func(s *api.Solid) { slices.Reverse(s.Faces[0].Loop[1:]) })
	change(func(s *api.Solid) { s.Faces[0].Loop = append(s.Faces[0].Loop[1:], s.Faces[0].Loop[0]) })
	change(func(s *api.Solid) { s.Faces[0], s.Faces[1] = s.Faces[1], s.Faces[0] })
	change(func(s *api.Solid) { s.Faces[0].Plane = -5 })
	change(func(s *api.Solid) { s.Verts = append(s.Verts, vector.Of(900, 0, 0)) })
	change(func(s *api.Solid) { *s = api.Solid{} })
	return l
}

func TestInvalid(t *testing.T) { // P7.1
	for i, s := range solids(t)[:4] {
		for k, bad := range spoiled(s) {
			v, m := vector.Of(0, 0, 0), api.Motion{}
			_, e1 := Around(bad, -1)
			_, e2 := Polygon(bad, -1)
			_, e3 := Trim(bad)
			_, e4 := Move(bad, m)
			_, e5 := Shift(bad, v)
			_, e6 := Scale(bad, num("-1"))
			for j, e := range []api.Errno{e1, e2, e3, e4, e5, e6} {
				if e != api.ErrArg {
					t.Errorf("P7.1: %d %d %d: %v", i, k, j, e)
				}
			}
			if Valid(bad) || Edges(bad) != nil || Contains(bad, v) != 1 || Equal(bad, s) || Equal(s, bad) {
				t.Errorf("P7.1: %d %d", i, k)
			}
		}
		_, e1 := Move(s, api.Motion{Turn: 24})
		_, e2 := Shift(s, api.Vec{})
		_, e3 := Scale(s, api.Num{})
		_, e4 := Scale(s, num("0"))
		if e1 != api.ErrArg || e2 != api.ErrArg || e3 != api.ErrArg || e4 != api.ErrRange || Contains(s, api.Vec{}) != 1 {
			t.Errorf("P7.1: %d: arguments", i)
		}
	}
}

func TestPlanes(t *testing.T) { // P7.4, P7.6
	l := solids(t)
	for i, s := range l {
		far, _ := plane.Shift(s.Planes[0], vector.Scale(s.Planes[0].N, field.Of(9)))
		more := slices.Concat([]api.Plane{far}, s.Planes, s.Planes)
		slices.Reverse(more)
		if len(more) > 100 {
			more = more[:100]
		}
		o, e := Of(more)
		if e != api.OK || !Equal(o, s) || !reflect.DeepEqual(o.Verts, s.Verts) || len(o.Faces) != len(s.Faces) {
			t.Errorf("P7.4: %d: %v", i, e)
		}
		trimmed, e := Trim(o)
		if e != api.OK || !Equal(trimmed, s) || !Valid(trimmed) || len(trimmed.Planes) != len(s.Faces) {
			t.Errorf("P7.4: %d: Trim", i)
		}
		for k, other := range l {
			if Equal(s, other) != (i == k || slices.Equal(s.Verts, other.Verts)) {
				t.Errorf("P7.6: %d %d", i, k)
			}
		}
	}
	if !Equal(l[0], l[5]) || Equal(l[0], l[4]) {
		t.Error("P7.6")
	}
}

func TestMoved(t *testing.T) { // P7.5
	shift, k := vec("(1/2, -r2, 3)"), num("2/3r3")
	back, _ := field.Div(num("1"), k)
	for i, s := range solids(t) {
		for _, m := range []api.Motion{{}, {Turn: 1}, {Turn: 7, Flip: true}} {
			moved, e := Move(s, m)
			if e != api.OK || !Valid(moved) || len(moved.Faces) != len(s.Faces) || len(Edges(moved)) != len(Edges(s)) {
				t.Fatalf("P7.5: %d: %v", i, m)
			}
			for _, v := range s.Verts {
				if !slices.Contains(moved.Verts, wheel.Move(v, m)) {
					t.Fatalf("P7.5: %d: %v", i, m)
				}
			}
			if undone, _ := Move(moved, wheel.Inverse(m)); !reflect.DeepEqual(undone, s) {
				t.Fatalf("P7.5: %d: %v: back", i, m)
			}
		}
		shifted, _ := Shift(s, shift)
		scaled, _ := Scale(s, k)
		for j, v := range s.Verts {
			if shifted.Verts[j] != vector.Add(v, shift) || scaled.Verts[j] != vector.Scale(v, k) {
				t.Fatalf("P7.5: %d", i)
			}
		}
		a, _ := Shift(shifted, vector.Neg(shift))
		b, _ := Scale(scaled, back)
		if !reflect.DeepEqual(a, s) || !reflect.DeepEqual(b, s) {
			t.Fatalf("P7.5: %d: back", i)
		}
	}
}

func BenchmarkBrilliant(b *testing.B) {
	l := brilliant()
	for range b.N {
		Of(l)
	}
}

func BenchmarkBlock(b *testing.B) {
	for range b.N {
		Block(1)
	}
}
