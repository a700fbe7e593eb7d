// Package axis helps to find directions along which two solids are apart.
package axis

import (
	"culet/api"
	"culet/bigint"
	"culet/field"
	"culet/vector"
)

// Whole returns a positive multiple of a valid vector whose numbers have the denominator 1: it is as good for signs, and needs no reducing.
func Whole(v api.Vec) api.Vec {
	factor := bigint.Of(1)
	for _, x := range [...]api.Num{v.X, v.Y, v.Z} {
		q, _, _ := bigint.DivMod(x.D, bigint.Gcd(factor, x.D))
		factor = bigint.Mul(factor, q)
	}
	k, _ := field.Make([4]api.Int{factor}, bigint.Of(1))
	return vector.Scale(v, k)
}

// Filter refuses most of the normals that do not separate two lists of points by few differences: a normal that separates has no positive product with a point of the first list minus one of the second one.
type Filter struct {
	a, b []api.Vec
	gaps []api.Vec
}

// maxGaps is the number of differences that are kept.
const maxGaps = 8

// New returns a filter for two lists of valid points, which are not empty.
func New(a, b []api.Vec) *Filter {
	return &Filter{a: a, b: b}
}

// Refuses reports whether a normal does not separate the lists.
func (f *Filter) Refuses(n api.Vec) bool {
	for i, g := range f.gaps {
		if field.Sign(vector.Dot(n, g)) > 0 {
			// What refused last is likely to refuse next.
			f.gaps[0], f.gaps[i] = f.gaps[i], f.gaps[0]
			return true
		}
	}
	most, least := extreme(f.a, n, 1), extreme(f.b, n, -1)
	gap := Whole(vector.Sub(most, least))
	if field.Sign(vector.Dot(n, gap)) <= 0 {
		return false
	}
	f.gaps = append([]api.Vec{gap}, f.gaps[:min(len(f.gaps), maxGaps-1)]...)
	return true
}

// extreme returns a point with the greatest product with a vector, or with the least one for the sign -1.
func extreme(l []api.Vec, n api.Vec, sign int) api.Vec {
	best := l[0]
	for _, v := range l[1:] {
		if field.Sign(vector.Dot(n, vector.Sub(v, best))) == sign {
			best = v
		}
	}
	return best
}
