// Package view maps what happens to light from one direction, over the squares of the plan view.
package view

import (
	"culet/api"
	"culet/brightness"
	"culet/cell"
	"culet/trace"
)

// None is the number of a square that does not lie on one facet.
const None = 0

// Map returns the number of each square of a valid grid for a valid body, and light with the parameters u and v; row and column 0 belong to the least Y and X.
func Map(b trace.Body, g brightness.Grid, u, v api.Interval, most int) ([][]int, api.Errno) {
	if most < 0 || most > trace.MaxBounces {
		return nil, api.ErrRange
	}
	m := [][]int{}
	for i := range g.Steps {
		row := []int{}
		for j := range g.Steps {
			kind, e := kindOf(b, cell.Cell{X: square(g, j), Y: square(g, i), U: u, V: v}, most)
			if e != api.OK {
				return nil, e
			}
			row = append(row, kind)
		}
		m = append(m, row)
	}
	return m, api.OK
}

// square returns the interval between two marks of a grid.
func square(g brightness.Grid, i int) api.Interval {
	mark := func(i int) int { return -g.Half + 2*g.Half*i/g.Steps }
	return api.Interval{Lo: mark(i), Hi: mark(i + 1)}
}

// kindOf returns the kind of the path of a cell for the first face on which it lies.
func kindOf(b trace.Body, c cell.Cell, most int) (int, api.Errno) {
	for i, n := range b.Normals {
		if n.Z.Lo <= 0 {
			continue
		}
		c.Face = i
		lies, e := cell.Covers(b, c)
		if e != api.OK {
			return None, e
		}
		if lies == cell.On {
			p, e := cell.Trace(b, c, most)
			return p.Kind, e
		}
	}
	return None, api.OK
}
