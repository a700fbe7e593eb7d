package plan

import (
	"slices"

	"culet/api"
	"culet/field"
	"culet/placement"
	"culet/plane"
	"culet/solid"
	"culet/vector"
)

func Prove(p Problem) (Proof, api.Errno) {
	if !Valid(p) {
		return Proof{}, api.ErrArg
	}
	l, e := values(p)
	if e != api.OK {
		return Proof{}, e
	}
	k, e := best(p, l)
	if e != api.OK {
		return Proof{}, e
	}
	x := Proof{Best: k}
	for _, i := range better(l, k) {
		x.Reasons = append(x.Reasons, reason(p, i))
	}
	return x, api.OK
}

// reason returns a reason why a candidate does not fit.
func reason(p Problem, k int) Reason {
	s := place(p, k)
	for _, v := range s.Verts {
		if outside(p.Crystal, v) {
			return Reason{Candidate: k, Flaw: -1, Point: v}
		}
	}
	i, _ := placement.First(p.Crystal, p.Flaws, s)
	return Reason{Candidate: k, Flaw: i, Point: inner(s, p.Flaws[i])}
}

func outside(s api.Solid, v api.Vec) bool {
	return slices.ContainsFunc(s.Planes, func(p api.Plane) bool { return plane.Side(p, v) > 0 })
}

// inner returns a common inner point of two solids: one of them is cut by the faces of the other one. Planes without a face are left out, so that there are never too many.
func inner(a, b api.Solid) api.Vec {
	common, _ := solid.Trim(a)
	for _, f := range b.Faces {
		p := b.Planes[f.Plane]
		if !slices.ContainsFunc(common.Verts, func(v api.Vec) bool { return plane.Side(p, v) > 0 }) {
			continue
		}
		cut, e := solid.Of(slices.Concat(common.Planes, []api.Plane{p}))
		if e != api.OK {
			break
		}
		common, _ = solid.Trim(cut)
	}
	sum := vector.Of(0, 0, 0)
	for _, v := range common.Verts {
		sum = vector.Add(sum, v)
	}
	share, _ := field.Ratio(1, len(common.Verts))
	return vector.Scale(sum, share)
}

// holds reports whether a reason is true.
func holds(p Problem, r Reason) bool {
	s := place(p, r.Candidate)
	if r.Flaw == -1 {
		return slices.Contains(s.Verts, r.Point) && outside(p.Crystal, r.Point)
	}
	if r.Flaw < 0 || r.Flaw >= len(p.Flaws) {
		return false
	}
	return solid.Contains(s, r.Point) == -1 && solid.Contains(p.Flaws[r.Flaw], r.Point) == -1
}

func Check(p Problem, x Proof) api.Errno {
	if !Valid(p) {
		return api.ErrArg
	}
	l, e := values(p)
	if e != api.OK {
		return e
	}
	if x.Best < 0 || x.Best >= len(l) {
		return api.ErrRange
	}
	if !fits(p, x.Best) {
		return api.ErrOverlap
	}
	for i, k := range better(l, x.Best) {
		if i >= len(x.Reasons) || x.Reasons[i].Candidate != k {
			return api.ErrOrder
		}
	}
	if len(x.Reasons) != len(better(l, x.Best)) {
		return api.ErrOrder
	}
	if slices.ContainsFunc(x.Reasons, func(r Reason) bool { return !holds(p, r) }) {
		return api.ErrProof
	}
	return api.OK
}
