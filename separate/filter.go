package separate

import (
	"culet/api"
	"culet/bigint"
	"culet/field"
	"culet/vector"
)

// whole returns a positive multiple of a vector whose numbers have the denominator 1: it is as good for signs, and needs no reducing.
func whole(v api.Vec) api.Vec {
	factor := bigint.Of(1)
	for _, x := range [...]api.Num{v.X, v.Y, v.Z} {
		q, _, _ := bigint.DivMod(x.D, bigint.Gcd(factor, x.D))
		factor = bigint.Mul(factor, q)
	}
	k, _ := field.Make([4]api.Int{factor}, bigint.Of(1))
	return vector.Scale(v, k)
}

// filter refuses most of the normals that do not separate two solids by the differences of few vertices: a normal that separates has no positive product with a vertex of the first solid minus one of the second one.
type filter struct {
	a, b []api.Vec
	gaps []api.Vec
}

// maxGaps is the number of differences that are kept.
const maxGaps = 8

func newFilter(a, b api.Solid) *filter {
	return &filter{a: a.Verts, b: b.Verts}
}

func (f *filter) refuses(n api.Vec) bool {
	for i, g := range f.gaps {
		if field.Sign(vector.Dot(n, g)) > 0 {
			// What refused last is likely to refuse next.
			f.gaps[0], f.gaps[i] = f.gaps[i], f.gaps[0]
			return true
		}
	}
	most, least := f.a[0], f.b[0]
	for _, v := range f.a {
		if field.Sign(vector.Dot(n, vector.Sub(v, most))) > 0 {
			most = v
		}
	}
	for _, v := range f.b {
		if field.Sign(vector.Dot(n, vector.Sub(v, least))) < 0 {
			least = v
		}
	}
	gap := whole(vector.Sub(most, least))
	if field.Sign(vector.Dot(n, gap)) <= 0 {
		return false
	}
	f.gaps = append([]api.Vec{gap}, f.gaps[:min(len(f.gaps), maxGaps-1)]...)
	return true
}
