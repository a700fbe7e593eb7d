package contrast

import (
	"math/rand"
	"reflect"
	"slices"
	"testing"

	"culet/api"
	"culet/brightness"
	"culet/cell"
	"culet/field"
	"culet/interval"
	"culet/plane"
	"culet/solid"
	"culet/trace"
	"culet/window"
)

const one = interval.Unit

func iv(lo, hi int) api.Interval { return api.Interval{Lo: lo, Hi: hi} }

func num(s string) api.Num {
	x, _ := field.Parse(s)
	return x
}

func ring(h, v, start, step int, depth string) (l []api.Plane) {
	for i := start; i < 24; i += step {
		p, _ := plane.Of(api.Setting{H: h, V: v, Index: i}, num(depth))
		l = append(l, p)
	}
	return l
}

// roof returns light from straight above, like a mirror.
func roof(t *testing.T) trace.Body {
	t.Helper()
	top, _ := plane.Of(api.Setting{V: 1}, num("1/3"))
	s, _ := solid.Of(slices.Concat([]api.Plane{top}, ring(1, 1, 0, 6, "1"), ring(1, 0, 6, 12, "1"), ring(1, -1, 0, 12, "1")))
	b, e := trace.Prepare(s, iv(2*one, 2*one))
	if e != api.OK {
		t.Fatal(e)
	}
	return b
}

func random(r *rand.Rand, rows, columns int, kinds ...int) window.Map {
	m := window.Map{}
	for range rows {
		row := []int{}
		for range columns {
			row = append(row, kinds[r.Intn(len(kinds))])
		}
		m = append(m, row)
	}
	return m
}

func maps() []window.Map {
	r := rand.New(rand.NewSource(1))
	l := []window.Map{{{1, 2, 2, 3}}, {{1}}, {{2, 2}, {2, 2}}}
	for i := range 40 {
		rows, columns := 1+r.Intn(16), 1+r.Intn(16)
		if i%2 == 0 {
			l = append(l, random(r, rows, columns, 1, 2, 3))
		} else {
			l = append(l, random(r, rows, columns, 0, 1, 2, 3))
		}
	}
	return l
}

func flipped(m window.Map) window.Map {
	out := slices.Clone(m)
	slices.Reverse(out)
	return out
}

func transposed(m window.Map) window.Map {
	out := window.Map{}
	for j := range m[0] {
		row := []int{}
		for i := range m {
			row = append(row, m[i][j])
		}
		out = append(out, row)
	}
	return out
}

// kind says what a pair of kinds is.
func kind(a, b int) Pairs {
	switch {
	case a == 0 || b == 0:
		return Pairs{}
	case a == 3 || b == 3:
		return Pairs{Possible: 1}
	case a == b:
		return Pairs{Equal: 1}
	}
	return Pairs{Different: 1}
}

func sum(l ...Pairs) (s Pairs) {
	for _, p := range l {
		s = Pairs{s.Different + p.Different, s.Possible + p.Possible, s.Equal + p.Equal}
	}
	return s
}

func TestPairs(t *testing.T) { // P36.1, P36.2, P36.3
	for i, m := range maps() {
		p, e := Of(m)
		want, none := Pairs{}, false
		rows, columns := len(m), len(m[0])
		for r := range rows {
			for c := range columns {
				none = none || m[r][c] == 0
				if r > 0 {
					want = sum(want, kind(m[r][c], m[r-1][c]))
				}
				if c > 0 {
					want = sum(want, kind(m[r][c], m[r][c-1]))
				}
			}
		}
		all := rows*(columns-1) + columns*(rows-1)
		total := p.Different + p.Possible + p.Equal
		if e != api.OK || p != want || total > all || !none && total != all {
			t.Fatalf("P36.2: %d: %v, want %v", i, p, want)
		}
		a, _ := Of(flipped(m))
		b, _ := Of(transposed(m))
		self, e := Change(m, m)
		if a != p || b != p || e != api.OK || self.Different != 0 {
			t.Errorf("P36.3: %d", i)
		}
	}
	if p, _ := Of(maps()[0]); p != (Pairs{1, 1, 1}) {
		t.Errorf("P36.2: example: %v", p)
	}
}

func TestChange(t *testing.T) { // P36.3
	r := rand.New(rand.NewSource(2))
	for range 50 {
		rows, columns := 1+r.Intn(9), 1+r.Intn(9)
		a, b := random(r, rows, columns, 0, 1, 2, 3), random(r, rows, columns, 0, 1, 2, 3)
		p, e := Change(a, b)
		q, _ := Change(b, a)
		want := Pairs{}
		for i := range a {
			for j := range a[i] {
				want = sum(want, kind(a[i][j], b[i][j]))
			}
		}
		if e != api.OK || p != want || q != p {
			t.Fatalf("P36.3: %v, want %v", p, want)
		}
	}
}

func TestViews(t *testing.T) { // P36.1, P36.4
	b := roof(t)
	g := brightness.Grid{Half: one, Cone: 0, Steps: 16, Turns: 1}
	flat, e := Tilted(b, g, iv(0, 0), iv(0, 0), 9)
	want, _ := window.Of(b, g, 9)
	if e != api.OK || !reflect.DeepEqual(flat, want) {
		t.Errorf("P36.1: straight light: %v", e)
	}
	us := []int{0, one / 3, one / 3, -one / 4, one / 2}
	views := []window.Map{}
	for _, u := range us {
		m, e := Tilted(b, g, iv(u, u), iv(0, 0), 9)
		if e != api.OK {
			t.Fatal(e)
		}
		for i, row := range m {
			for j, k := range row {
				c := cell.Cell{Face: 0, X: iv(-one+2*one*j/16, -one+2*one*(j+1)/16), Y: iv(-one+2*one*i/16, -one+2*one*(i+1)/16), U: iv(u, u)}
				if lies, _ := cell.Covers(b, c); lies == cell.On {
					if p, _ := cell.Trace(b, c, 9); p.Kind != k {
						t.Fatalf("P36.1: %d %d", i, j)
					}
				}
			}
		}
		views = append(views, m)
	}
	total := Pairs{}
	for i := 1; i < len(views); i++ {
		p, _ := Change(views[i-1], views[i])
		total = sum(total, p)
		s, e := Scintillation(b, g, us[:i+1], 9)
		if e != api.OK || s != total {
			t.Errorf("P36.4: %d: %v, want %v", i, s, total)
		}
	}
	if s, _ := Scintillation(b, g, us[1:3], 9); s.Different != 0 || s.Equal == 0 {
		t.Errorf("P36.4: the same view: %v", s)
	}
	if total.Different == 0 || total.Equal == 0 || total.Possible == 0 {
		t.Errorf("one-sided test: %v", total)
	}
}

func TestSymmetric(t *testing.T) { // P36.5
	r := rand.New(rand.NewSource(3))
	seen := map[[3]bool]bool{}
	for i := range 3000 {
		m := random(r, 1+r.Intn(3), 1+r.Intn(3), []int{1, 1, 1, 2, 3, 0}[:4+r.Intn(3)]...)
		quarter, half, mirror, e := Symmetric(m)
		seen[[3]bool{quarter, half, mirror}] = true
		rows, columns := len(m), len(m[0])
		wq, wh, wm, known, same := rows == columns, true, true, true, true
		for a := range rows {
			for b := range columns {
				if rows == columns && kind(m[a][b], m[b][columns-1-a]).Different > 0 {
					wq = false
				}
				wh = wh && kind(m[a][b], m[rows-1-a][columns-1-b]).Different == 0
				wm = wm && kind(m[a][b], m[a][columns-1-b]).Different == 0
				known = known && m[a][b] != 0 && m[a][b] != 3
				same = same && m[a][b] == m[a][columns-1-b]
			}
		}
		if e != api.OK || quarter != wq || half != wh || mirror != wm {
			t.Fatalf("P36.1: %d: %v: %v %v %v", i, m, quarter, half, mirror)
		}
		if known && quarter && !half || same && !mirror {
			t.Fatalf("P36.5: %v", m)
		}
	}
	if len(seen) < 7 {
		t.Errorf("one-sided test: %v", seen)
	}
	if q, h, m, _ := Symmetric(window.Map{{1, 2, 2, 3}}); q || !h || !m {
		t.Error("P36.5: example")
	}
}

func TestErrors(t *testing.T) { // P36.1
	good, bad := window.Map{{1, 2}}, window.Map{{4, 1}}
	_, e1 := Of(bad)
	_, e2 := Change(good, bad)
	_, e3 := Change(bad, good)
	_, e4 := Change(good, window.Map{{1}, {2}})
	_, e5 := Change(good, window.Map{{1}})
	q, h, m, e6 := Symmetric(bad)
	for i, e := range []api.Errno{e1, e2, e3, e4, e5, e6} {
		if e != api.ErrArg {
			t.Errorf("P36.1: %d: %v", i+1, e)
		}
	}
	if q || h || m {
		t.Error("P36.1: Symmetric")
	}
	b := roof(t)
	g := brightness.Grid{Half: one, Cone: 0, Steps: 2, Turns: 1}
	for i, c := range []struct {
		b    trace.Body
		g    brightness.Grid
		u, v api.Interval
		most int
		e    api.Errno
	}{{trace.Body{}, g, iv(0, 0), iv(0, 0), -1, api.ErrArg}, {b, brightness.Grid{}, iv(0, 0), iv(0, 0), -1, api.ErrArg}, {b, g, iv(0, one/2+1), iv(0, 0), -1, api.ErrArg}, {b, g, iv(0, 0), iv(-one/2-1, 0), 0, api.ErrArg}, {b, g, iv(1, 0), iv(0, 0), 0, api.ErrArg}, {b, g, iv(0, 0), iv(0, 0), -1, api.ErrRange}, {b, g, iv(0, 0), iv(0, 0), 21, api.ErrRange}, {b, brightness.Grid{Half: interval.Max, Cone: 0, Steps: 1, Turns: 1}, iv(0, 0), iv(0, 0), 0, api.ErrLimit}, {b, g, iv(-one/2, one/2), iv(-one/2, one/2), 20, api.OK}} {
		if m, e := Tilted(c.b, c.g, c.u, c.v, c.most); e != c.e || e != api.OK && m != nil {
			t.Errorf("P36.1: %d: %v", i, e)
		}
	}
	for i, c := range []struct {
		b    trace.Body
		us   []int
		most int
		e    api.Errno
	}{{trace.Body{}, nil, 0, api.ErrRange}, {b, []int{0}, 0, api.ErrRange}, {b, make([]int, 11), 0, api.ErrRange}, {b, make([]int, 10), 0, api.OK}, {trace.Body{}, []int{0, 0}, 0, api.ErrArg}, {b, []int{0, one}, 0, api.ErrArg}, {b, []int{0, one}, -1, api.ErrRange}, {b, []int{one, 0}, -1, api.ErrArg}} {
		if s, e := Scintillation(c.b, g, c.us, c.most); e != c.e || e != api.OK && s != (Pairs{}) {
			t.Errorf("P36.1: %d: %v", i, e)
		}
	}
}
