package brightness

import (
	"math/big"
	"slices"
	"testing"

	"culet/api"
	"culet/cell"
	"culet/field"
	"culet/interval"
	"culet/plane"
	"culet/refine"
	"culet/solid"
	"culet/trace"
)

const one = interval.Unit

func iv(lo, hi int) api.Interval { return api.Interval{Lo: lo, Hi: hi} }

func num(s string) api.Num {
	x, _ := field.Parse(s)
	return x
}

func ring(h, v, start, step int, depth string) (l []api.Plane) {
	for i := start; i < 24; i += step {
		p, _ := plane.Of(api.Setting{H: h, V: v, Index: i}, num(depth))
		l = append(l, p)
	}
	return l
}

func prepare(t *testing.T, s api.Solid, index int) trace.Body {
	t.Helper()
	b, e := trace.Prepare(s, iv(index, index))
	if e != api.OK {
		t.Fatal(e)
	}
	return b
}

func brilliant(t *testing.T) trace.Body {
	t.Helper()
	top, _ := plane.Of(api.Setting{V: 1}, num("1/3"))
	s, _ := solid.Of(slices.Concat([]api.Plane{top}, ring(1, 1, 0, 3, "1"), ring(1, 0, 0, 3, "1"), ring(7, -8, 0, 3, "43/5")))
	return prepare(t, s, one*24/10)
}

func cube(t *testing.T) trace.Body {
	t.Helper()
	s, _ := solid.Block(1)
	return prepare(t, s, 2*one)
}

func TestGrid(t *testing.T) { // P34.1, P34.5
	b := brilliant(t)
	for _, g := range []Grid{{one, one / 4, 5, 2}, {one, 0, 8, 1}, {one / 2, one / 2, 3, 3}, {7, 5, 4, 3}, {2, 1, 5, 4}} {
		on, partly, e := Cells(b, g)
		if e != api.OK {
			t.Fatalf("P34.5: %v: %v", g, e)
		}
		mark := func(w, n, i int) int {
			x := new(big.Int).Div(big.NewInt(int64(2*w*i)), big.NewInt(int64(n)))
			return -w + int(x.Int64())
		}
		want, wantPartly := []cell.Cell{}, 0
		for y := range g.Steps {
			for x := range g.Steps {
				for f, n := range b.Normals {
					c := cell.Cell{Face: f, X: iv(mark(g.Half, g.Steps, x), mark(g.Half, g.Steps, x+1)), Y: iv(mark(g.Half, g.Steps, y), mark(g.Half, g.Steps, y+1))}
					if n.Z.Lo <= 0 {
						continue
					}
					k, _ := cell.Covers(b, c)
					if k == cell.Partly {
						wantPartly++
					}
					for v := range g.Turns {
						for u := range g.Turns {
							if k == cell.On {
								c.U, c.V = iv(mark(g.Cone, g.Turns, u), mark(g.Cone, g.Turns, u+1)), iv(mark(g.Cone, g.Turns, v), mark(g.Cone, g.Turns, v+1))
								want = append(want, c)
							}
						}
					}
				}
			}
		}
		if !slices.Equal(on, want) || partly != wantPartly || len(on) == 0 {
			t.Errorf("P34.5: %v: %d %d cells, %d %d", g, len(on), len(want), partly, wantPartly)
		}
		seen := map[cell.Cell]bool{}
		for _, c := range on {
			if seen[c] && g.Half >= g.Steps && g.Cone >= g.Turns {
				t.Errorf("P34.5: %v: twice %v", g, c)
			}
			seen[c] = true
		}
	}
	for _, w := range []int{0, 1, 7, one} {
		for n := 1; n <= 16; n++ {
			l := squares(w, n)
			if l[0].Lo != -w || l[n-1].Hi != w || len(l) != n {
				t.Errorf("P34.5: %d %d: %v", w, n, l)
			}
		}
	}
}

func TestExample(t *testing.T) { // P34.1
	b := cube(t)
	g := Grid{one, 0, 2, 1}
	on, partly, e := Cells(b, g)
	if len(on) != 4 || partly != 0 || e != api.OK {
		t.Errorf("P34.1: %d %d %v", len(on), partly, e)
	}
	if x, e := Brightness(b, g, 3, 5); x != iv(0, 0) || e != api.OK {
		t.Errorf("P34.1: %v %v", x, e)
	}
}

// plain computes the bounds with fractions.
func plain(t *testing.T, b trace.Body, l []cell.Cell, depth, most int) api.Interval {
	t.Helper()
	lo, hi := new(big.Rat), new(big.Rat)
	var add func(c cell.Cell, share *big.Rat, left int)
	add = func(c cell.Cell, share *big.Rat, left int) {
		p, _ := cell.Trace(b, c, most)
		x, y, e := refine.Split(c)
		if p.Kind == trace.Unknown && left > 0 && e == api.OK {
			half := new(big.Rat).Mul(share, big.NewRat(1, 2))
			add(x, half, left-1)
			add(y, half, left-1)
			return
		}
		least, greatest := 0, 0
		if p.Kind == trace.Returns {
			least, greatest = p.Gain.Lo, p.Gain.Hi
		} else if p.Kind == trace.Unknown {
			greatest = one
		}
		lo.Add(lo, new(big.Rat).Mul(share, big.NewRat(int64(least), 1)))
		hi.Add(hi, new(big.Rat).Mul(share, big.NewRat(int64(greatest), 1)))
	}
	for _, c := range l {
		add(c, big.NewRat(1, int64(len(l))), depth)
	}
	a := new(big.Int).Div(lo.Num(), lo.Denom())
	c := new(big.Int).Neg(new(big.Int).Div(new(big.Int).Neg(hi.Num()), hi.Denom()))
	return iv(int(a.Int64()), int(c.Int64()))
}

func TestBounds(t *testing.T) { // P34.1, P34.2, P34.4, P34.6
	b := brilliant(t)
	decided := false
	for _, g := range []Grid{{one, one / 100, 6, 1}, {one / 2, one / 4, 3, 2}, {one / 2, 0, 16, 1}} {
		l, _, _ := Cells(b, g)
		last := iv(0, one)
		for depth := range 5 {
			x, e := Refined(b, l, depth, 7)
			if e != api.OK || x != plain(t, b, l, depth, 7) {
				t.Fatalf("P34.1: %v: %v %v", g, x, e)
			}
			if !interval.Inside(x, last) {
				t.Fatalf("P34.2: %v: %v after %v", g, x, last)
			}
			last = x
			more, _ := Refined(b, l, depth, 12)
			if !interval.Inside(more, x) {
				t.Fatalf("P34.6: %v: %v and %v", g, more, x)
			}
			if y, e := Brightness(b, g, depth, 7); y != x || e != api.OK {
				t.Fatalf("P34.1: %v: %v %v", g, y, e)
			}
			decided = decided || x.Lo > 0 && x.Hi < one
		}
		flat, _ := Bounds(b, l, 7)
		zero, _ := Refined(b, l, 0, 7)
		if flat != zero {
			t.Errorf("P34.1: %v: Bounds", g)
		}
		back := slices.Clone(l)
		slices.Reverse(back)
		if x, _ := Refined(b, back, 4, 7); x != last {
			t.Errorf("P34.4: %v: order", g)
		}
		p, _ := Refined(b, l[:len(l)/3], 4, 7)
		q, _ := Refined(b, l[len(l)/3:], 4, 7)
		if last.Lo < min(p.Lo, q.Lo) || last.Hi > max(p.Hi, q.Hi) {
			t.Errorf("P34.4: %v: %v of %v and %v", g, last, p, q)
		}
		samples := []cell.Cell{}
		for i, c := range l {
			corner, _ := cell.Corner(c, i%16)
			samples = append(samples, corner)
		}
		if x, e := Bounds(b, samples, 7); e != api.OK || !interval.Inside(x, last) {
			t.Errorf("P34.3: %v: %v in %v", g, x, last)
		}
	}
	if !decided {
		t.Error("P34.1: nothing was decided")
	}
}

func TestDepths(t *testing.T) { // P34.1: Bounds does not split
	b := cube(t)
	// Half of this cell leaks after one split.
	l := []cell.Cell{{Face: 4, X: iv(0, one), Y: iv(0, 0), U: iv(0, one/4)}}
	flat, e1 := Bounds(b, l, 9)
	deep, e2 := Refined(b, l, 3, 9)
	if e1 != api.OK || e2 != api.OK || flat != iv(0, one) || deep == flat {
		t.Errorf("P34.1: %v %v", flat, deep)
	}
}

func TestErrors(t *testing.T) { // P34.1
	b := cube(t)
	good := Grid{one, 0, 2, 1}
	for i, g := range []Grid{{0, 0, 1, 1}, {interval.Max + 1, 0, 1, 1}, {1, -1, 1, 1}, {1, one/2 + 1, 1, 1}, {1, 0, 0, 1}, {1, 0, 17, 1}, {1, 0, 1, 0}, {1, 0, 1, 17}} {
		on, partly, e := Cells(b, g)
		if x, e2 := Brightness(b, g, 0, 0); Valid(g) || e != api.ErrArg || e2 != api.ErrArg || on != nil || partly != 0 || x != (api.Interval{}) {
			t.Errorf("P34.1: %d: %v %v", i, e, e2)
		}
	}
	if !Valid(Grid{interval.Max, one / 2, 16, 16}) || !Valid(Grid{1, 0, 1, 1}) {
		t.Error("P34.1: limits")
	}
	if _, _, e := Cells(trace.Body{}, good); e != api.ErrArg {
		t.Errorf("P34.1: %v", e)
	}
	if _, _, e := Cells(b, Grid{one, 0, 12, 12}); e != api.ErrLimit {
		t.Errorf("P34.1: %v", e)
	}
	if _, _, e := Cells(brilliant(t), Grid{interval.Max, 0, 1, 1}); e != api.ErrLimit {
		t.Errorf("P34.1: %v", e)
	}
	c := cell.Cell{Face: 4}
	off := cell.Cell{Face: 4, X: iv(2*one, 2*one)}
	for i, k := range []struct {
		l           []cell.Cell
		depth, most int
		e           api.Errno
	}{{nil, 99, 99, api.ErrNone}, {slices.Repeat([]cell.Cell{off}, 20001), 0, 0, api.ErrLimit}, {[]cell.Cell{c, off, {Face: 9}}, 0, 0, api.ErrState}, {[]cell.Cell{c, {Face: 9}, off}, 0, 0, api.ErrArg}, {[]cell.Cell{c}, 13, 0, api.ErrRange}, {[]cell.Cell{c}, 0, 21, api.ErrRange}} {
		if x, e := Refined(b, k.l, k.depth, k.most); x != (api.Interval{}) || e != k.e {
			t.Errorf("P34.1: %d: %v", i, e)
		}
	}
	if x, e := Bounds(b, slices.Repeat([]cell.Cell{c}, 20000), 0); x != iv(0, 0) || e != api.OK {
		t.Errorf("P34.1: %v", e)
	}
	if _, e := Brightness(b, Grid{Half: 1, Cone: 0, Steps: 1, Turns: 1}, 0, 0); e != api.OK {
		t.Errorf("P34.1: %v", e)
	}
	if _, e := Brightness(b, Grid{Half: 60 * one, Cone: 0, Steps: 1, Turns: 1}, 0, 0); e != api.ErrNone {
		t.Errorf("P34.1: %v", e)
	}
}
