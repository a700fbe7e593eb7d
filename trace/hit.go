package trace

import (
	"iter"

	"culet/api"
	"culet/direction"
	"culet/interval"
)

// way is the way to a face that can be hit: its least length, and its greatest one, if this is bounded.
type way struct {
	face, least, greatest int
	bounded               bool
}

// ways visits the faces that a ray can hit; the first error of an operation is kept, and ends it.
func ways(b Body, r Ray, fault *api.Errno) iter.Seq[way] {
	return func(yield func(way) bool) {
		for i, n := range b.Normals {
			c, e := direction.Dot(n, r.Dir)
			if e != api.OK {
				*fault = e
				return
			}
			at, e := direction.Dot(n, r.At)
			if e != api.OK {
				*fault = e
				return
			}
			g, e := interval.Sub(b.Depths[i], at)
			if e != api.OK {
				*fault = e
				return
			}
			if c.Hi <= 0 {
				continue
			}
			w := way{face: i, least: max(0, g.Lo) * interval.Unit / c.Hi}
			if c.Lo > 0 {
				w.bounded = true
				w.greatest = (max(0, g.Hi)*interval.Unit + c.Lo - 1) / c.Lo
			}
			if !yield(w) {
				return
			}
		}
	}
}

// hit needs a valid body and a valid ray.
func hit(b Body, r Ray) (face int, length api.Interval, e api.Errno) {
	fault := api.OK
	best := way{}
	all := []way{}
	for w := range ways(b, r, &fault) {
		all = append(all, w)
		if w.bounded && (!best.bounded || w.greatest < best.greatest) {
			best = w
		}
	}
	switch {
	case fault != api.OK:
		return 0, api.Interval{}, fault
	case len(all) == 0:
		return 0, api.Interval{}, api.ErrNone
	case !best.bounded:
		return 0, api.Interval{}, api.ErrAmbiguous
	}
	for _, w := range all {
		if w.face != best.face && w.least <= best.greatest {
			return 0, api.Interval{}, api.ErrAmbiguous
		}
	}
	if best.greatest > interval.Max {
		return 0, api.Interval{}, api.ErrLimit
	}
	return best.face, api.Interval{Lo: best.least, Hi: best.greatest}, api.OK
}

// Hit returns the facet that a ray within a body hits, and the length of its way there.
func Hit(b Body, r Ray) (face int, length api.Interval, e api.Errno) {
	if !Valid(b) || !validRay(r) {
		return 0, api.Interval{}, api.ErrArg
	}
	return hit(b, r)
}
