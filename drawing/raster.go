package drawing

import (
	"culet/api"
	"culet/diagram"
	"culet/field"
	"culet/section"
)

// span is what a line of equal Y has in common with a convex polygon: the points with X from lo to hi. It is flat if it lies on the boundary.
type span struct {
	lo, hi api.Num
	flat   bool
}

// cross returns the span of a polygon, and whether there is one.
func cross(l []api.Vec, y api.Num) (s span, ok bool) {
	below, above := false, false
	add := func(x api.Num) {
		if !ok || field.Cmp(x, s.lo) < 0 {
			s.lo = x
		}
		if !ok || field.Cmp(x, s.hi) > 0 {
			s.hi = x
		}
		ok = true
	}
	for i, p := range l {
		q := l[(i+1)%len(l)]
		a, b := field.Cmp(p.Y, y), field.Cmp(q.Y, y)
		if a == 0 {
			add(p.X)
		}
		if a*b < 0 {
			way, _ := field.Div(field.Sub(y, p.Y), field.Sub(q.Y, p.Y))
			add(field.Add(p.X, field.Mul(way, field.Sub(q.X, p.X))))
		}
		below, above = below || a < 0, above || a > 0
	}
	s.flat = !below || !above
	return s, ok
}

// place returns -1, 0 or 1 for a point inside of, at an end of, or outside of a span.
func (s span) place(x api.Num) int {
	a, b := field.Cmp(x, s.lo), field.Cmp(x, s.hi)
	switch {
	case a < 0 || b > 0:
		return 1
	case a == 0 || b == 0 || s.flat:
		return 0
	}
	return -1
}

// between returns the points in the middle of equal parts of the way from a to b.
func between(a, b api.Num, parts int) []api.Num {
	l := []api.Num{}
	for i := range parts {
		share, _ := field.Ratio(2*i+1, 2*parts)
		l = append(l, field.Add(a, field.Mul(share, field.Sub(b, a))))
	}
	return l
}

// box returns the extremes of the coordinates of a list of points.
func box(l []api.Vec) (left, right, bottom, top api.Num) {
	left, right, bottom, top = l[0].X, l[0].X, l[0].Y, l[0].Y
	for _, p := range l {
		if field.Cmp(p.X, left) < 0 {
			left = p.X
		}
		if field.Cmp(p.X, right) > 0 {
			right = p.X
		}
		if field.Cmp(p.Y, bottom) < 0 {
			bottom = p.Y
		}
		if field.Cmp(p.Y, top) > 0 {
			top = p.Y
		}
	}
	return left, right, bottom, top
}

// Raster returns the rows of the character drawing.
func Raster(s api.Solid, part, width int) ([]string, api.Errno) {
	outline, e := section.Plan(s)
	if e != api.OK {
		return nil, api.ErrArg
	}
	if !validPart(part) || width < MinWidth || width > MaxWidth {
		return nil, api.ErrRange
	}
	faces, _ := diagram.Plan(s, part)
	left, right, bottom, top := box(outline)
	xs := between(left, right, width)
	rows := []string{}
	for _, y := range between(top, bottom, width/2) {
		rows = append(rows, row(faces, xs, y))
	}
	return rows, api.OK
}

// row returns the characters of the cells with the same Y.
func row(faces []diagram.Outline, xs []api.Num, y api.Num) string {
	line := make([]byte, len(xs))
	for i := range line {
		line[i] = '.'
	}
	draw := func(i int, s span) {
		for k, x := range xs {
			switch s.place(x) {
			case -1:
				line[k] = byte('a' + i%26)
			case 0:
				line[k] = '+'
			}
		}
	}
	for i, o := range faces {
		if s, ok := cross(o.Points, y); ok {
			draw(i, s)
		}
	}
	return string(line)
}
