package audit

import (
	"maps"
	"slices"

	"culet/api"
	"culet/axis"
	"culet/field"
	"culet/plane"
	"culet/vector"
)

// MaxSolids is the greatest number of solids of a list.
const MaxSolids = 12

// Witness is a plane that separates two solids of a list.
type Witness struct {
	I, K  int
	Plane api.Plane
}

func checkSolids(l []api.Solid) api.Errno {
	if len(l) > MaxSolids {
		return api.ErrLimit
	}
	if !all(l, func(s api.Solid) bool { return Solid(s) == api.OK }) {
		return api.ErrArg
	}
	return api.OK
}

// separates reports whether no vertex of a is outside of a half-space, and none of b inside.
func separates(p api.Plane, a, b api.Solid) bool {
	below := all(a.Verts, func(v api.Vec) bool { return plane.Side(p, v) <= 0 })
	return below && all(b.Verts, func(v api.Vec) bool { return plane.Side(p, v) >= 0 })
}

// pairs returns all pairs of indices of a list, in order.
func pairs(n int) [][2]int {
	l := [][2]int{}
	for i := range n {
		for k := i + 1; k < n; k++ {
			l = append(l, [2]int{i, k})
		}
	}
	return l
}

// Apart returns OK if witnesses prove that solids are apart, and Witnesses returns some.
func Apart(l []api.Solid, w []Witness) api.Errno {
	if e := checkSolids(l); e != api.OK {
		return e
	}
	if !all(w, func(x Witness) bool { return plane.Valid(x.Plane) }) {
		return api.ErrArg
	}
	ofPair := func(x Witness, p [2]int) bool { return x.I == p[0] && x.K == p[1] }
	if !slices.EqualFunc(w, pairs(len(l)), ofPair) {
		return api.ErrOrder
	}
	if !all(w, func(x Witness) bool { return separates(x.Plane, l[x.I], l[x.K]) }) {
		return api.ErrProof
	}
	return api.OK
}

func Witnesses(l []api.Solid) ([]Witness, api.Errno) {
	if e := checkSolids(l); e != api.OK {
		return nil, e
	}
	out := []Witness{}
	for _, p := range pairs(len(l)) {
		q, ok := between(l[p[0]], l[p[1]])
		if !ok {
			return nil, api.ErrOverlap
		}
		out = append(out, Witness{p[0], p[1], q})
	}
	return out, api.OK
}

// normals returns the outward normals of the faces, and directions the directions of the edges of a solid.
func normals(s api.Solid) []api.Vec {
	l := []api.Vec{}
	for _, f := range s.Faces {
		l = append(l, s.Planes[f.Plane].N)
	}
	return l
}

func directions(s api.Solid) []api.Vec {
	ends := map[[2]int]bool{}
	for _, f := range s.Faces {
		for k, v := range f.Loop {
			if w := f.Loop[(k+1)%len(f.Loop)]; v < w {
				ends[[2]int{v, w}] = true
			}
		}
	}
	// In order, so that the same witness is found each time.
	sorted := slices.SortedFunc(maps.Keys(ends), func(a, b [2]int) int { return slices.Compare(a[:], b[:]) })
	l := []api.Vec{}
	for _, e := range sorted {
		l = append(l, axis.Whole(vector.Sub(s.Verts[e[1]], s.Verts[e[0]])))
	}
	return l
}

// between returns a plane that separates two solids, if there is one: then there is one that is parallel to a face of one of them, or to an edge of both.
func between(a, b api.Solid) (api.Plane, bool) {
	filter := axis.New(a.Verts, b.Verts)
	attempt := func(n api.Vec) (api.Plane, bool) {
		if vector.Zero(n) || filter.Refuses(n) {
			return api.Plane{}, false
		}
		d := vector.Dot(n, a.Verts[0])
		for _, v := range a.Verts[1:] {
			if x := vector.Dot(n, v); field.Cmp(x, d) > 0 {
				d = x
			}
		}
		return api.Plane{N: n, D: d}, true
	}
	candidates := normals(a)
	for _, n := range normals(b) {
		candidates = append(candidates, vector.Neg(n))
	}
	for _, n := range candidates {
		if p, ok := attempt(n); ok {
			return p, true
		}
	}
	others := directions(b)
	for _, d := range directions(a) {
		for _, c := range others {
			n := vector.Cross(d, c)
			for _, n := range [2]api.Vec{n, vector.Neg(n)} {
				if p, ok := attempt(n); ok {
					return p, true
				}
			}
		}
	}
	return api.Plane{}, false
}
