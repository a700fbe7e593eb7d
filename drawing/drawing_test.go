package drawing

import (
	"slices"
	"strings"
	"testing"

	"culet/api"
	"culet/diagram"
	"culet/field"
	"culet/polygon"
	"culet/resolve"
	"culet/section"
	"culet/solid"
	"culet/syntax"
	"culet/vector"
)

func num(s string) api.Num {
	x, _ := field.Parse(s)
	return x
}

func parse(t *testing.T, text string) api.Design {
	t.Helper()
	d, at, e := syntax.Parse(text)
	if e != api.OK {
		t.Fatal(text, at, e)
	}
	return d
}

const (
	pyramid   = "design pyramid order 4 tier B angle 0/-1 at 0 depth 0 tier C angle 1/1 at 0 depth 1"
	brilliant = `design brilliant order 8 mirror
		tier P angle 1/-1 at 0 depth 2
		tier G angle 1/0 at 0 edge P:0 P:3 height "-1/3"
		tier M angle 1/1 at 0 depth 2
		tier S angle 3/4 at 1 meet M:0 M:3 G:0
		tier T angle 0/1 at 0 edge S:1 S:2 height "9/10"`
	triangle = "design triangle order 3 tier p angle 3/-1 at 1 depth 1 tier c angle 1/2 at 0 depth 1"
)

func TestDecimals(t *testing.T) { // P21.1, P21.2
	for _, c := range []struct {
		x      string
		digits int
		want   string
	}{
		{"2/3", 2, "0.67"}, {"-1/2", 0, "0"}, {"r2", 3, "1.414"}, {"0", 0, "0"}, {"0", 3, "0.000"}, {"-2/3", 2, "-0.67"}, {"1/2", 0, "1"}, {"-3/2", 0, "-1"}, {"-0.05", 1, "0.0"}, {"0.05", 1, "0.1"}, {"-0.051", 1, "-0.1"}, {"123.456", 1, "123.5"}, {"-0.004", 2, "0.00"}, {"1/3", 20, "0.33333333333333333333"}, {"r6", 20, "2.44948974278317809820"}, {"99.99", 1, "100.0"},
	} {
		if s, e := Decimal(num(c.x), c.digits); s != c.want || e != api.OK {
			t.Errorf("P21.2: %s with %d: %s %v", c.x, c.digits, s, e)
		}
	}
	for _, x := range []string{"r2", "-r3+1/7", "5/8", "-5/8", "12345678901234567890/7"} {
		unit := num("1")
		for k := range 21 {
			s, _ := Decimal(num(x), k)
			d := field.Mul(field.Sub(num(s), num(x)), unit)
			if field.Cmp(field.Abs(d), num("1/2")) > 0 || d == num("-1/2") {
				t.Errorf("P21.2: %s with %d: %s", x, k, s)
			}
			unit = field.Mul(unit, num("10"))
		}
	}
	for _, k := range []int{-1, 21} {
		if s, e := Decimal(num("1"), k); s != "" || e != api.ErrRange {
			t.Errorf("P21.1: %d digits: %v", k, e)
		}
	}
	if s, e := Decimal(api.Num{}, -1); s != "" || e != api.ErrArg {
		t.Errorf("P21.1: %v", e)
	}
}

func TestPaths(t *testing.T) { // P21.1
	l := []api.Vec{vector.Of(1, 2, 9), {X: num("r2"), Y: num("-1/3"), Z: num("0")}, vector.Of(0, 0, 0)}
	if s, e := Path(l, 2); s != "M 1.00,2.00 L 1.41,-0.33 L 0.00,0.00 Z" || e != api.OK {
		t.Errorf("P21.1: %s %v", s, e)
	}
	if s, e := Path(l[:1], 0); s != "M 1,2 Z" || e != api.OK {
		t.Errorf("P21.1: %s %v", s, e)
	}
	for i, c := range []struct {
		l      []api.Vec
		digits int
		e      api.Errno
	}{{nil, 0, api.ErrArg}, {nil, -1, api.ErrArg}, {append(l, api.Vec{}), 99, api.ErrArg}, {[]api.Vec{{X: num("1"), Z: num("1")}}, 0, api.ErrArg}, {[]api.Vec{{X: num("1"), Y: num("1")}}, 0, api.ErrArg}, {[]api.Vec{{Y: num("1"), Z: num("1")}}, 0, api.ErrArg}, {l, -1, api.ErrRange}, {l, 21, api.ErrRange}} {
		if s, e := Path(c.l, c.digits); s != "" || e != c.e {
			t.Errorf("P21.1: %d: %v", i, e)
		}
	}
}

func TestPlan(t *testing.T) { // P21.4
	for _, text := range []string{pyramid, brilliant, triangle} {
		d := parse(t, text)
		r, _, _ := resolve.Resolve(d)
		for _, part := range []int{1, -1} {
			l, at, e := Plan(d, part, 3)
			outlines, _ := diagram.Plan(r.Solid, part)
			if at != 0 || e != api.OK || len(l) != len(outlines) {
				t.Fatalf("P21.4: %s: %d %v", d.Name, at, e)
			}
			for i, s := range l {
				p, _ := Path(outlines[i].Points, 3)
				face := r.Solid.Faces[outlines[i].Face]
				if s != r.Facets[face.Plane].Tier+" "+p || strings.Count(s, ",") != len(face.Loop) {
					t.Errorf("P21.4: %s: %s", d.Name, s)
				}
			}
		}
	}
	open := parse(t, "design x order 4 tier C angle 1/1 at 0 depth 1")
	for _, c := range []struct {
		part, digits, at int
		e                api.Errno
	}{{0, 3, -1, api.ErrRange}, {2, 3, -1, api.ErrRange}, {1, -1, -1, api.ErrRange}, {1, 21, -1, api.ErrRange}, {1, 3, 1, api.ErrOpen}} {
		if l, at, e := Plan(open, c.part, c.digits); l != nil || at != c.at || e != c.e {
			t.Errorf("P21.1: %v: %d %v", c, at, e)
		}
	}
}

func TestProfile(t *testing.T) { // P21.1
	s, _ := solid.Block(1)
	if p, e := Profile(s, 3, 1); p != "M -1.4,-1.0 L 1.4,-1.0 L 1.4,1.0 L -1.4,1.0 Z" || e != api.OK {
		t.Errorf("P21.1: %s %v", p, e)
	}
	bad := s
	bad.Verts = nil
	for i, c := range []struct {
		s           api.Solid
		position, k int
		e           api.Errno
	}{{bad, 24, -1, api.ErrArg}, {s, 24, -1, api.ErrRange}, {s, 0, 21, api.ErrRange}} {
		if p, e := Profile(c.s, c.position, c.k); p != "" || e != c.e {
			t.Errorf("P21.1: %d: %v", i, e)
		}
	}
}

// character finds the character of a point by the definition.
func character(outlines []diagram.Outline, p api.Vec) byte {
	c := byte('.')
	for i, o := range outlines {
		switch polygon.Contains(o.Points, vector.Of(0, 0, 1), p) {
		case -1:
			return byte('a' + i%26)
		case 0:
			c = '+'
		}
	}
	return c
}

func TestRaster(t *testing.T) { // P21.3
	letters := map[byte]bool{}
	for _, text := range []string{pyramid, brilliant, triangle, "design many order 24 tier p angle 1/-1 at 0 depth 1 tier c angle 1/1 at 0 depth 1 tier d angle 1/2 at 0 depth \"3/2\" tier t angle 0/1 at 0 depth \"5/8\""} {
		r, _, e := resolve.Resolve(parse(t, text))
		if e != api.OK {
			t.Fatal(e)
		}
		s, _ := solid.Shift(r.Solid, vector.Of(1, -2, 3))
		outline, _ := section.Plan(s)
		left, right, bottom, top := box(outline)
		for _, part := range []int{1, -1} {
			outlines, _ := diagram.Plan(s, part)
			for _, w := range []int{2, 3, 9, 20} {
				rows, e := Raster(s, part, w)
				if e != api.OK || len(rows) != w/2 {
					t.Fatalf("P21.3: %d rows: %v", len(rows), e)
				}
				for j, row := range rows {
					if len(row) != w {
						t.Fatalf("P21.3: %q", row)
					}
					for i := range w {
						a, _ := field.Ratio(2*i+1, 2*w)
						b, _ := field.Ratio(2*j+1, 2*(w/2))
						p := api.Vec{X: field.Add(left, field.Mul(a, field.Sub(right, left))), Y: field.Sub(top, field.Mul(b, field.Sub(top, bottom))), Z: num("0")}
						if row[i] != character(outlines, p) {
							t.Fatalf("P21.3: %s: %d %d: %q", text, i, j, row)
						}
						letters[row[i]] = true
					}
				}
			}
		}
	}
	if !letters['.'] || !letters['+'] || !letters['a'] || !letters['z'] {
		t.Errorf("P21.3: %v", letters)
	}
	s, _ := solid.Block(1)
	if rows, _ := Raster(s, 1, 4); !slices.Equal(rows, []string{"aaaa", "aaaa"}) {
		t.Errorf("P21.3: %v", rows)
	}
	bad := s
	bad.Verts = nil
	for i, c := range []struct {
		s       api.Solid
		part, w int
		e       api.Errno
	}{{bad, 0, 0, api.ErrArg}, {s, 0, 10, api.ErrRange}, {s, 1, 1, api.ErrRange}, {s, 1, 81, api.ErrRange}, {s, -1, 80, api.OK}} {
		if rows, e := Raster(c.s, c.part, c.w); e != c.e || e != api.OK && rows != nil {
			t.Errorf("P21.1: %d: %v", i, e)
		}
	}
}
