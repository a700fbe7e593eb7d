// Package clone copies values, so that results share no memory with arguments.
package clone

import (
	"slices"

	"culet/api"
)

// Solid returns a copy of a solid.
func Solid(s api.Solid) api.Solid {
	return api.Solid{Planes: slices.Clone(s.Planes), Verts: slices.Clone(s.Verts), Faces: Faces(s.Faces)}
}

// Faces returns a copy of faces.
func Faces(l []api.Face) []api.Face {
	out := slices.Clone(l)
	for i := range out {
		out[i].Loop = slices.Clone(out[i].Loop)
	}
	return out
}

// Design returns a copy of a design.
func Design(d api.Design) api.Design {
	d.Tiers = slices.Clone(d.Tiers)
	for i := range d.Tiers {
		d.Tiers[i] = Tier(d.Tiers[i])
	}
	return d
}

// Tier returns a copy of a tier.
func Tier(t api.Tier) api.Tier {
	t.Indices = slices.Clone(t.Indices)
	t.Fix.Refs = slices.Clone(t.Fix.Refs)
	return t
}
