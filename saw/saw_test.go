package saw

import (
	"math/rand"
	"slices"
	"testing"

	"culet/api"
	"culet/cut"
	"culet/field"
	"culet/multiplan"
	"culet/plane"
	"culet/separate"
	"culet/solid"
	"culet/vector"
)

func block(x, y, z int) api.Solid {
	s, _ := solid.Block(1)
	s, _ = solid.Shift(s, vector.Of(x, y, z))
	return s
}

func lists() [][]api.Solid {
	l := [][]api.Solid{
		{block(0, 0, 0)}, {block(0, 0, 0), block(2, 0, 0)}, {block(0, 0, 0), block(2, 2, 0), block(4, 0, 1), block(0, 5, 0)}, {block(0, 0, 0), block(1, 1, 1)}, {block(0, 0, 0), block(0, 0, 0), block(9, 0, 0)},
		// A pinwheel: no plane separates the four blocks.
		{wide(0, 0, 4, 2), wide(4, 0, 2, 4), wide(2, 4, 4, 2), wide(0, 2, 2, 4)},
	}
	r := rand.New(rand.NewSource(1))
	for range 12 {
		stones := []api.Solid{}
		for range 2 + r.Intn(5) {
			stones = append(stones, block(r.Intn(9), r.Intn(9), r.Intn(9)))
		}
		l = append(l, stones)
	}
	return l
}

// wide returns a box from a corner in the plan.
func wide(x, y, dx, dy int) api.Solid {
	s := block(0, 0, 0)
	for i, d := range []int{x + dx, -x, y + dy, -y} {
		s.Planes[i].D = field.Of(d)
	}
	s, _ = solid.Of(s.Planes)
	return s
}

func TestBuilt(t *testing.T) { // P47.1, P47.2, P47.4, W9
	results := map[api.Errno]int{}
	for i, l := range lists() {
		planes, e := Faces(l)
		if e != api.OK || len(planes) != 6*len(l) {
			t.Fatalf("P47.1: %d: %v", i, e)
		}
		plan, e := Build(l, planes)
		results[e]++
		disjoint := true
		for a := range l {
			for b := range a {
				disjoint = disjoint && separate.Disjoint(l[a], l[b])
			}
		}
		if e != api.OK {
			if e != api.ErrNone || plan != nil || i == 2 {
				t.Errorf("P47.1: %d: %v", i, e)
			}
			continue
		}
		if !disjoint || len(plan) != len(l)-1 || Check(l, plan) != api.OK {
			t.Fatalf("P47.2: %d: %v", i, Check(l, plan))
		}
		items, all := []multiplan.Item{}, []int{}
		for k, s := range l {
			items = append(items, multiplan.Item{Solid: s, Value: k + 1})
			all = append(all, k)
		}
		if v, e := multiplan.Check(items, all); e != api.OK || v != len(l)*(len(l)+1)/2 {
			t.Errorf("W9: %d: %v", i, e)
		}
		depth, _ := Depth(plan)
		deepest := 0
		for k, s := range l {
			cuts, e := Cuts(l, plan, k)
			if e != api.OK {
				t.Fatal(e)
			}
			deepest = max(deepest, len(cuts))
			around, _ := solid.Block(100)
			for _, c := range cuts {
				if side, _ := Place(s, c); side != -1 {
					t.Errorf("P47.4: %d: stone %d", i, k)
				}
				around, _, _ = cut.Cut(around, c)
			}
			if !separate.Inside(s, around) {
				t.Errorf("W9: %d: stone %d", i, k)
			}
			for j, o := range l {
				if j != k && !slices.ContainsFunc(cuts, func(c api.Plane) bool { side, _ := Place(o, c); return side == 1 }) {
					t.Errorf("P47.4: %d: stone %d and %d", i, k, j)
				}
			}
		}
		if depth != deepest {
			t.Errorf("P47.1: %d: depth %d, want %d", i, depth, deepest)
		}
	}
	if results[api.OK] < 3 || results[api.ErrNone] < 3 {
		t.Errorf("one-sided test: %v", results)
	}
	l := lists()[1]
	planes, _ := Faces(l)
	plan, _ := Build(l, planes)
	if len(plan) != 1 || plan[0] != (Node{planes[0], -1, -2}) {
		t.Errorf("P47.2: example: %v", plan)
	}
}

// separable searches for any right plan.
func separable(l []api.Solid, planes []api.Plane) bool {
	if len(l) < 2 {
		return true
	}
	for _, p := range planes {
		a, b, ok := []api.Solid{}, []api.Solid{}, true
		for _, s := range l {
			switch place(s, p) {
			case -1:
				a = append(a, s)
			case 1:
				b = append(b, s)
			default:
				ok = false
			}
		}
		if ok && len(a) > 0 && len(b) > 0 && separable(a, planes) && separable(b, planes) {
			return true
		}
	}
	return false
}

func TestComplete(t *testing.T) { // P47.3, P47.5, P47.6
	for i, l := range lists() {
		faces, _ := Faces(l)
		for _, n := range []int{len(faces), len(faces) / 2, len(faces) / 3} {
			planes := faces[:n]
			_, e := Build(l, planes)
			if (e == api.OK) != separable(l, planes) {
				t.Errorf("P47.3: %d: %d planes: %v", i, n, e)
			}
			if e != api.OK {
				continue
			}
			for k := range l {
				less := append(slices.Clone(l[:k]), l[k+1:]...)
				if len(less) == 0 {
					continue
				}
				if _, e := Build(less, planes); e != api.OK {
					t.Errorf("P47.5: %d without %d: %v", i, k, e)
				}
			}
			more := slices.Concat([]api.Plane{{N: vector.Of(1, 2, 3), D: field.Of(4)}}, planes, faces[:2])
			if _, e := Build(l, more); e != api.OK {
				t.Errorf("P47.6: %d: %v", i, e)
			}
		}
	}
}

func TestPlace(t *testing.T) { // P47.1
	p := api.Plane{N: vector.Of(1, 0, 0), D: field.Of(1)}
	for x, want := range map[int]int{0: -1, -5: -1, 1: 0, 2: 1, 7: 1} {
		if side, e := Place(block(x, 0, 0), p); side != want || e != api.OK {
			t.Errorf("P47.1: %d: %d", x, side)
		}
	}
	bad := block(0, 0, 0)
	bad.Faces = nil
	_, e1 := Place(bad, p)
	_, e2 := Place(block(0, 0, 0), api.Plane{})
	if e1 != api.ErrArg || e2 != api.ErrArg {
		t.Errorf("P47.1: %v %v", e1, e2)
	}
}

func TestWrong(t *testing.T) { // P47.1
	l := lists()[2]
	planes, _ := Faces(l)
	plan, e := Build(l, planes)
	if e != api.OK || len(plan) != 3 {
		t.Fatal(e)
	}
	for i, c := range []struct {
		f     func(l []Node) []Node
		e     api.Errno
		depth bool
	}{
		{func(l []Node) []Node { return l[1:] }, api.ErrOrder, false}, {func(l []Node) []Node { return nil }, api.ErrOrder, true}, {func(l []Node) []Node { return append(l, l[0]) }, api.ErrOrder, false}, {func(l []Node) []Node { l[0].Below = 0; return l }, api.ErrOrder, false}, {func(l []Node) []Node { l[2].Below = 1; return l }, api.ErrOrder, false}, {func(l []Node) []Node { l[2].Below = 3; return l }, api.ErrOrder, false}, {func(l []Node) []Node { l[2].Below = -5; return l }, api.ErrOrder, false}, {func(l []Node) []Node { l[2].Below = l[2].Above; return l }, api.ErrOrder, false},
		{func(l []Node) []Node { l[2].Below, l[2].Above = l[2].Above, l[2].Below; return l }, api.ErrProof, true}, {func(l []Node) []Node { l[0].Plane, _ = plane.Opposite(l[0].Plane); return l }, api.ErrProof, true}, {func(l []Node) []Node { l[1].Plane = api.Plane{N: vector.Of(1, 1, 1), D: field.Of(1)}; return l }, api.ErrProof, true},
		{func(l []Node) []Node { l[1].Plane = api.Plane{}; l[0].Below = 9; return l }, api.ErrArg, false},
	} {
		bad := c.f(slices.Clone(plan))
		_, e2 := Cuts(l, bad, -1)
		if e := Check(l, bad); e != c.e || e2 != c.e {
			t.Errorf("P47.1: %d: %v %v", i, e, e2)
		}
		if n, e := Depth(bad); c.depth != (e == api.OK) || !c.depth && (e != api.ErrOrder || n != 0) {
			t.Errorf("P47.1: %d: depth: %v", i, e)
		}
	}
	chain := []Node{}
	for i := range 8 {
		chain = append(chain, Node{Below: -1 - i, Above: i + 1})
	}
	chain[7].Above = -9
	if _, e := Depth(chain); e != api.ErrOrder {
		t.Errorf("P47.1: 8 nodes: %v", e)
	}
	chain[6].Above = -8
	if n, e := Depth(chain[:7]); n != 7 || e != api.OK {
		t.Errorf("P47.1: 7 nodes: %d %v", n, e)
	}
	if n, e := Depth(nil); n != 0 || e != api.OK {
		t.Errorf("P47.1: %v", e)
	}
	for _, k := range []int{-1, 4} {
		if cuts, e := Cuts(l, plan, k); cuts != nil || e != api.ErrRange {
			t.Errorf("P47.1: %d: %v", k, e)
		}
	}
	if cuts, e := Cuts(l[:1], nil, 0); len(cuts) != 0 || e != api.OK {
		t.Errorf("P47.1: %v", e)
	}
}

func TestErrors(t *testing.T) { // P47.1
	bad := block(0, 0, 0)
	bad.Faces = nil
	many := slices.Repeat([]api.Solid{bad}, 9)
	p := block(0, 0, 0).Planes[0]
	wrong := []Node{{}}
	for i, c := range []struct {
		l                   []api.Solid
		planes              []api.Plane
		faces, build, check api.Errno
	}{
		{many, make([]api.Plane, 61), api.ErrLimit, api.ErrLimit, api.ErrLimit}, {[]api.Solid{bad}, make([]api.Plane, 61), api.ErrArg, api.ErrArg, api.ErrArg}, {nil, make([]api.Plane, 61), api.OK, api.ErrLimit, api.ErrArg}, {nil, nil, api.OK, api.ErrArg, api.ErrArg}, {[]api.Solid{block(0, 0, 0)}, []api.Plane{p, {}}, api.OK, api.ErrArg, api.ErrArg}, {[]api.Solid{block(0, 0, 0)}, slices.Repeat([]api.Plane{p}, 60), api.OK, api.OK, api.ErrArg},
	} {
		f, e1 := Faces(c.l)
		b, e2 := Build(c.l, c.planes)
		e3 := Check(c.l, wrong)
		_, e4 := Cuts(c.l, wrong, 9)
		if e1 != c.faces || e2 != c.build || e3 != c.check || e4 != c.check || e1 != api.OK && f != nil || len(b) != 0 {
			t.Errorf("P47.1: %d: %v %v %v", i, e1, e2, e3)
		}
	}
	row := []api.Solid{}
	for i := range 8 {
		row = append(row, block(2*i, 0, 0))
	}
	faces, e := Faces(row)
	plan, e2 := Build(row, faces)
	if e != api.OK || e2 != api.OK || len(plan) != 7 || Check(row, plan) != api.OK {
		t.Errorf("P47.1: 8 stones: %v %v", e, e2)
	}
	if side, e := Place(bad, p); side != 0 || e != api.ErrArg {
		t.Errorf("P47.1: %d %v", side, e)
	}
}
