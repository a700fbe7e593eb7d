package solid

import (
	"math/bits"
	"slices"

	"culet/api"
	"culet/bigint"
	"culet/field"
	"culet/plane"
	"culet/vector"
)

// set is a set of planes by their indices; infinity stands for the plane at infinity.
type set [2]uint64

const infinity = 127

func (s set) with(i int) set {
	s[i/64] |= 1 << (i % 64)
	return s
}

func (s set) has(i int) bool {
	return s[i/64]>>(i%64)&1 == 1
}

func (s set) meet(t set) set {
	return set{s[0] & t[0], s[1] & t[1]}
}

func (s set) within(t set) bool {
	return s.meet(t) == s
}

func (s set) size() int {
	return bits.OnesCount64(s[0]) + bits.OnesCount64(s[1])
}

// members returns the planes of a set but for that at infinity.
func (s set) members() []int {
	l := []int{}
	for i := range infinity {
		if s.has(i) {
			l = append(l, i)
		}
	}
	return l
}

// half is a half-space whose numbers have the denominator 1: numbers of this kind need no reducing.
type half struct {
	n api.Vec
	d api.Num
}

// whole returns the half-space of a plane with numbers with the denominator 1.
func whole(p api.Plane) half {
	factor := bigint.Of(1)
	for _, x := range [...]api.Num{p.N.X, p.N.Y, p.N.Z, p.D} {
		g := bigint.Gcd(factor, x.D)
		q, _, _ := bigint.DivMod(x.D, g)
		factor = bigint.Mul(factor, q)
	}
	k, _ := field.Make([4]api.Int{factor}, bigint.Of(1))
	return half{vector.Scale(p.N, k), field.Mul(p.D, k)}
}

// ray is a point in homogeneous coordinates: v / w, or the direction v, if w is 0; and the planes on which it lies.
type ray struct {
	v  api.Vec
	w  api.Num
	on set
}

// side returns the sign of the distance of a point from the boundary of a half-space.
func (r ray) side(h half) int {
	return field.Sign(field.Sub(vector.Dot(h.n, r.v), field.Mul(h.d, r.w)))
}

// corner returns the point on three boundaries; w is 0 if there is none, or more than one.
func corner(a, b, c half) ray {
	bc := vector.Cross(b.n, c.n)
	r := ray{w: vector.Dot(a.n, bc)}
	if field.Sign(r.w) == 0 {
		return r
	}
	r.v = vector.Add(vector.Scale(bc, a.d), vector.Add(vector.Scale(vector.Cross(c.n, a.n), b.d), vector.Scale(vector.Cross(a.n, b.n), c.d)))
	if field.Sign(r.w) < 0 {
		r.v, r.w = vector.Neg(r.v), field.Neg(r.w)
	}
	return r
}

// direction returns the direction along two boundaries that leads into a third half-space.
func direction(a, b, into half) ray {
	v := vector.Cross(a.n, b.n)
	if field.Sign(vector.Dot(into.n, v)) > 0 {
		v = vector.Neg(v)
	}
	return ray{v: v, w: field.Of(0)}
}

// builder cuts the cone of all points in homogeneous coordinates by one half-space after the other; rays are the edges of what is left.
type builder struct {
	halves []half
	rays   []ray
}

// frame returns three planes whose normals are independent.
func (b *builder) frame() (l [3]int, ok bool) {
	second := 0
	for i := range b.halves {
		n := b.halves[i].n
		switch {
		case second == 0:
			if !vector.Zero(vector.Cross(b.halves[0].n, n)) {
				second = i
			}
		case field.Sign(vector.Det(b.halves[0].n, b.halves[second].n, n)) != 0:
			return [3]int{0, second, i}, true
		}
	}
	return l, false
}

// begin makes the cone of three half-spaces.
func (b *builder) begin(l [3]int) {
	h := [3]half{b.halves[l[0]], b.halves[l[1]], b.halves[l[2]]}
	apex := corner(h[0], h[1], h[2])
	apex.on = set{}.with(l[0]).with(l[1]).with(l[2])
	b.rays = []ray{apex}
	for i := range l {
		k, m := (i+1)%3, (i+2)%3
		r := direction(h[i], h[k], h[m])
		r.on = set{}.with(l[i]).with(l[k]).with(infinity)
		b.rays = append(b.rays, r)
	}
}

// cut cuts by a half-space, and reports whether inner points are left.
func (b *builder) cut(i int) bool {
	h := b.halves[i]
	var inside, outside, kept []ray
	for _, r := range b.rays {
		switch r.side(h) {
		case -1:
			inside = append(inside, r)
			kept = append(kept, r)
		case 0:
			r.on = r.on.with(i)
			kept = append(kept, r)
		case 1:
			outside = append(outside, r)
		}
	}
	if len(inside) == 0 {
		return false
	}
	for _, p := range outside {
		for _, q := range inside {
			if b.adjacent(p.on.meet(q.on)) {
				kept = append(kept, b.between(p, q, i))
			}
		}
	}
	b.rays = kept
	return true
}

// adjacent reports whether just two rays lie on all planes that two rays have in common: these are the ends of an edge.
func (b *builder) adjacent(common set) bool {
	if common.size() < 2 {
		return false
	}
	count := 0
	for _, r := range b.rays {
		if common.within(r.on) {
			count++
		}
	}
	return count == 2
}

// between returns the point of an edge on the boundary of a half-space. It is computed anew from its planes, so that its numbers do not grow with each cut.
func (b *builder) between(p, q ray, i int) ray {
	common := p.on.meet(q.on)
	l := common.members()
	h := b.halves[i]
	r := ray{}
	if common.has(infinity) {
		only := p.on
		for _, k := range only.members() {
			if !common.has(k) {
				r = direction(b.halves[l[0]], h, b.halves[k])
				break
			}
		}
	} else {
		for k := 1; k < len(l) && field.Sign(r.w) == 0; k++ {
			r = corner(b.halves[l[0]], b.halves[l[k]], h)
		}
	}
	r.on = common.with(i)
	return r
}

// closed reports whether no vector other than 0 has only products that are at most 0 with all normals.
func closed(halves []half) bool {
	spans := false
	for i, a := range halves {
		for _, b := range halves[:i] {
			v := vector.Cross(a.n, b.n)
			if vector.Zero(v) {
				continue
			}
			spans = true
			if recedes(halves, v) || recedes(halves, vector.Neg(v)) {
				return false
			}
		}
	}
	return spans
}

func recedes(halves []half, v api.Vec) bool {
	for _, h := range halves {
		if field.Sign(vector.Dot(h.n, v)) > 0 {
			return false
		}
	}
	return true
}

// corners returns the vertices of the solid of some planes, and the planes on which they lie: repeated planes are left out.
func corners(planes []api.Plane) ([]ray, api.Errno) {
	b := builder{}
	at := map[api.Plane]int{}
	order := []int{}
	for i, p := range planes {
		b.halves = append(b.halves, whole(p))
		c, _ := plane.Canonical(p)
		if _, found := at[c]; !found {
			at[c] = i
			order = append(order, i)
		}
	}
	l, ok := b.frame()
	if !ok {
		return nil, api.ErrOpen
	}
	b.begin(l)
	for _, i := range order {
		if i == l[0] || i == l[1] || i == l[2] {
			continue
		}
		if !b.cut(i) {
			// If what was there before this cut is bounded, the planes so far are closed already.
			if b.bounded() || closed(b.halves) {
				return nil, api.ErrEmpty
			}
			return nil, api.ErrOpen
		}
	}
	if !b.bounded() {
		return nil, api.ErrOpen
	}
	return b.rays, api.OK
}

// bounded reports whether no ray leads to infinity.
func (b *builder) bounded() bool {
	return !slices.ContainsFunc(b.rays, func(r ray) bool { return r.on.has(infinity) })
}
