package cell

import (
	"math/rand"
	"reflect"
	"slices"
	"testing"

	"culet/api"
	"culet/direction"
	"culet/field"
	"culet/interval"
	"culet/plane"
	"culet/solid"
	"culet/trace"
)

const one = interval.Unit

func iv(lo, hi int) api.Interval { return api.Interval{Lo: lo, Hi: hi} }

func num(s string) api.Num {
	x, _ := field.Parse(s)
	return x
}

func cube(t *testing.T) trace.Body {
	t.Helper()
	s, _ := solid.Block(1)
	b, e := trace.Prepare(s, iv(2*one, 2*one))
	if e != api.OK {
		t.Fatal(e)
	}
	return b
}

func ring(h, v, start, step int, depth string) (l []api.Plane) {
	for i := start; i < 24; i += step {
		p, _ := plane.Of(api.Setting{H: h, V: v, Index: i}, num(depth))
		l = append(l, p)
	}
	return l
}

func brilliant(t *testing.T) trace.Body {
	t.Helper()
	top, _ := plane.Of(api.Setting{V: 1}, num("1/3"))
	s, e := solid.Of(slices.Concat([]api.Plane{top}, ring(1, 1, 0, 3, "1"), ring(1, 0, 0, 3, "1"), ring(6, -5, 0, 3, "5")))
	if e != api.OK {
		t.Fatal(e)
	}
	b, e := trace.Prepare(s, iv(one*17/10, one*17/10))
	if e != api.OK {
		t.Fatal(e)
	}
	return b
}

func part(r *rand.Rand, x api.Interval) api.Interval {
	a, b := x.Lo+r.Intn(x.Hi-x.Lo+1), x.Lo+r.Intn(x.Hi-x.Lo+1)
	return iv(min(a, b), max(a, b))
}

func random(r *rand.Rand, face, size, width int) Cell {
	near := func(size, width int) api.Interval {
		a := r.Intn(2*size+1) - size
		return iv(a, min(a+r.Intn(width+1), size))
	}
	return Cell{face, near(size, width), near(size, width), near(one/2, width), near(one/2, width)}
}

func TestExample(t *testing.T) { // P32.1
	b := cube(t)
	c := Cell{4, iv(-one/2, one/2), iv(-one/2, one/2), iv(0, 0), iv(0, 0)}
	p, e := Point(b, c)
	k, e2 := Covers(b, c)
	path, e3 := Trace(b, c, 5)
	if e != api.OK || p != (direction.Dir{X: c.X, Y: c.Y, Z: iv(one, one)}) || k != On || e2 != api.OK || e3 != api.OK || path.Kind != trace.Leaks || !slices.Equal(path.Faces, []int{5}) {
		t.Errorf("P32.1: %v %v %v", p, k, path)
	}
	for _, s := range []struct {
		x, y api.Interval
		want int
	}{{iv(one, one), iv(0, 0), On}, {iv(one+1, 2*one), iv(0, 0), Off}, {iv(0, 2*one), iv(0, 0), Partly}, {iv(one, one+1), iv(-one, one), Partly}, {iv(0, 2*one), iv(-3*one, -2*one), Off}, {iv(-3*one, -2*one), iv(0, 2*one), Off}} {
		c.X, c.Y = s.x, s.y
		if k, e := Covers(b, c); k != s.want || e != api.OK {
			t.Errorf("P32.1: %v: %d %v", s, k, e)
		}
		if p, e := Trace(b, c, 5); (e == api.OK) != (s.want == On) || e != api.OK && (e != api.ErrState || p.Kind != 0) {
			t.Errorf("P32.1: %v: %v", s, e)
		}
	}
}

func TestParts(t *testing.T) { // P32.2, P32.3, P32.5
	r := rand.New(rand.NewSource(1))
	b := brilliant(t)
	kinds, paths := map[int]int{}, map[int]int{}
	for i := range 3000 {
		c := random(r, r.Intn(9), one*5/4, []int{1000, one / 40, one / 4, one}[i%4])
		k, e := Covers(b, c)
		at, e2 := Point(b, c)
		if e != api.OK || e2 != api.OK {
			t.Fatalf("P32.1: %v: %v", c, e)
		}
		kinds[k]++
		small := Cell{c.Face, part(r, c.X), part(r, c.Y), part(r, c.U), part(r, c.V)}
		m, _ := Covers(b, small)
		in, _ := Point(b, small)
		if k != Partly && m != k || !direction.Inside(in, at) || !Inside(small, c) {
			t.Fatalf("P32.2: %v in %v: %d %d", small, c, m, k)
		}
		n := b.Normals[c.Face]
		z, _ := direction.Dot(n, in)
		if _, none := interval.Meet(z, b.Depths[c.Face]); none != api.OK {
			t.Fatalf("P32.4: %v", small)
		}
		if k != On {
			continue
		}
		most := r.Intn(9)
		p, e := Trace(b, c, most)
		paths[p.Kind]++
		if e != api.OK || p.Gain.Lo < 0 || p.Gain.Hi > one {
			t.Fatalf("P32.5: %v: %v", c, e)
		}
		if q, e := Trace(b, small, most); e != api.OK || !trace.Inside(q, p) {
			t.Fatalf("P32.3: %v in %v: %v", small, c, e)
		}
		for k := range 16 {
			corner, _ := Corner(c, k)
			if q, e := Trace(b, corner, most); e != api.OK || !trace.Inside(q, p) {
				t.Fatalf("P32.3: corner %d of %v: %v", k, c, e)
			}
		}
		d, _ := direction.Of(c.U, c.V)
		ray, light, e := trace.Enter(b, c.Face, trace.Ray{At: at, Dir: d})
		want := trace.Path{Kind: trace.Unknown}
		if e == api.OK {
			want, _ = trace.Follow(b, ray, light, most)
		}
		if !reflect.DeepEqual(p, want) {
			t.Fatalf("P32.1: %v: %v, want %v", c, p, want)
		}
	}
	if kinds[On] < 50 || kinds[Off] < 50 || kinds[Partly] < 50 || paths[trace.Returns] < 5 || paths[trace.Leaks] < 5 || paths[trace.Unknown] < 5 {
		t.Errorf("one-sided test: %v %v", kinds, paths)
	}
}

func TestSurface(t *testing.T) { // P32.6
	r := rand.New(rand.NewSource(2))
	b := brilliant(t)
	both := 0
	for i := range 20000 {
		c := random(r, r.Intn(9), one, []int{0, 100}[i%2])
		if i%4 < 2 {
			// On the border of the table and a crown facet.
			x := one * 2 / 3
			c.Face, c.X, c.Y = 0, iv(x-r.Intn(3), x+r.Intn(3)), iv(0, 0)
		}
		other := c
		other.Face = r.Intn(9)
		k, _ := Covers(b, c)
		m, _ := Covers(b, other)
		if k != On || m != On || c.Face == other.Face {
			continue
		}
		both++
		p, _ := Point(b, c)
		q, _ := Point(b, other)
		if _, none := interval.Meet(p.Z, q.Z); none != api.OK {
			t.Fatalf("P32.6: %v %v", c, other)
		}
	}
	t.Log(both)
}

func TestCorners(t *testing.T) { // P32.1
	c := Cell{3, iv(1, 2), iv(3, 4), iv(5, 6), iv(7, 8)}
	for k := range 16 {
		q, e := Corner(c, k)
		at := func(x api.Interval, bit int) api.Interval {
			if k&bit != 0 {
				return iv(x.Hi, x.Hi)
			}
			return iv(x.Lo, x.Lo)
		}
		if e != api.OK || q != (Cell{3, at(c.X, 1), at(c.Y, 2), at(c.U, 4), at(c.V, 8)}) || !Inside(q, c) {
			t.Errorf("P32.1: %d: %v", k, q)
		}
	}
	for _, k := range []int{-1, 16} {
		if q, e := Corner(c, k); q != (Cell{}) || e != api.ErrRange {
			t.Errorf("P32.1: %d: %v", k, e)
		}
	}
	for i := range 4 {
		bad, wide := c, c
		*[]*api.Interval{&bad.X, &bad.Y, &bad.U, &bad.V}[i] = iv(1, 0)
		*[]*api.Interval{&wide.X, &wide.Y, &wide.U, &wide.V}[i] = iv(0, 9)
		if q, e := Corner(bad, -1); q != (Cell{}) || e != api.ErrArg {
			t.Errorf("P32.1: %d: %v", i, e)
		}
		if Inside(bad, bad) || !Inside(c, wide) || Inside(wide, c) {
			t.Errorf("P32.1: Inside %d", i)
		}
	}
	other := c
	other.Face = 4
	if Inside(other, c) {
		t.Error("P32.1: other face")
	}
}

func TestErrors(t *testing.T) { // P32.1
	b := cube(t)
	good := Cell{4, iv(0, 0), iv(0, 0), iv(-one/2, one/2), iv(-one/2, one/2)}
	if !Valid(b, good) {
		t.Error("P32.1: valid")
	}
	none := b
	none.Depths = nil
	for i, c := range []struct {
		b trace.Body
		c Cell
	}{
		{none, good}, {b, Cell{-1, good.X, good.Y, good.U, good.V}}, {b, Cell{6, good.X, good.Y, good.U, good.V}}, {b, Cell{0, good.X, good.Y, good.U, good.V}}, {b, Cell{5, good.X, good.Y, good.U, good.V}}, {b, Cell{4, iv(1, 0), good.Y, good.U, good.V}}, {b, Cell{4, good.X, iv(1, 0), good.U, good.V}}, {b, Cell{4, good.X, good.Y, iv(0, one/2+1), good.V}}, {b, Cell{4, good.X, good.Y, good.U, iv(-one/2-1, 0)}}, {b, Cell{4, good.X, good.Y, iv(1, 0), good.V}},
	} {
		p, e1 := Point(c.b, c.c)
		k, e2 := Covers(c.b, c.c)
		path, e3 := Trace(c.b, c.c, -1)
		if Valid(c.b, c.c) || e1 != api.ErrArg || e2 != api.ErrArg || e3 != api.ErrArg || p != (direction.Dir{}) || k != 0 || path.Kind != 0 {
			t.Errorf("P32.1: %d: %v %v %v", i, e1, e2, e3)
		}
	}
	for _, most := range []int{-1, 21} {
		off := good
		off.X = iv(5*one, 5*one)
		if p, e := Trace(b, off, most); e != api.ErrRange || p.Kind != 0 {
			t.Errorf("P32.1: %d: %v", most, e)
		}
	}
	far := Cell{1, iv(60*one, 60*one), iv(60*one, 60*one), iv(0, 0), iv(0, 0)}
	body := brilliant(t)
	_, e1 := Point(body, far)
	_, e2 := Covers(body, far)
	_, e3 := Trace(body, far, 0)
	if e1 != api.OK && e1 != api.ErrLimit || e2 != api.ErrLimit || e3 != api.ErrLimit {
		t.Errorf("P32.1: %v %v %v", e1, e2, e3)
	}
}
