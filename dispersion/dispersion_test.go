package dispersion

import (
	"math/big"
	"math/rand"
	"reflect"
	"slices"
	"testing"

	"culet/api"
	"culet/cell"
	"culet/direction"
	"culet/field"
	"culet/interval"
	"culet/plane"
	"culet/solid"
	"culet/trace"
)

const one = interval.Unit

func iv(lo, hi int) api.Interval { return api.Interval{Lo: lo, Hi: hi} }

func num(s string) api.Num {
	x, _ := field.Parse(s)
	return x
}

func table() []Entry {
	return []Entry{{400, 200000}, {450, 193333}, {457, 193000}, {600, 180000}, {601, 180000}, {3000, 179999}}
}

func body(t *testing.T) trace.Body {
	t.Helper()
	l := []api.Plane{}
	for _, s := range []api.Setting{{V: 1}, {H: 1, V: -3}, {H: 1, Index: 6}, {H: 1, Index: 18}, {H: 1, Index: 12}, {H: 1, Index: 0}} {
		p, _ := plane.Of(s, num("1"))
		l = append(l, p)
	}
	s, e := solid.Of(append(l, api.Plane{N: l[0].N, D: num("1")}))
	if e != api.OK {
		bottom, _ := plane.Of(api.Setting{V: -1}, num("1"))
		if s, e = solid.Of(append(l, bottom)); e != api.OK {
			t.Fatal(e)
		}
	}
	b, e := trace.Prepare(s, iv(2*one, 2*one))
	if e != api.OK {
		t.Fatal(e)
	}
	return b
}

// exact is the index at a wavelength.
func exact(t []Entry, w int) *big.Rat {
	for i, x := range t {
		if x.Wave == w {
			return big.NewRat(int64(x.Index), 100000)
		}
		if i > 0 && t[i-1].Wave < w && w < x.Wave {
			a, b := t[i-1], x
			slope := big.NewRat(int64(b.Index-a.Index), int64(b.Wave-a.Wave))
			y := new(big.Rat).Mul(slope, big.NewRat(int64(w-a.Wave), 1))
			y.Add(y, big.NewRat(int64(a.Index), 1))
			return y.Mul(y, big.NewRat(1, 100000))
		}
	}
	return nil
}

// encloses reports whether an interval is the least one around a number.
func encloses(x api.Interval, y *big.Rat) bool {
	units := func(n int) int { return big.NewRat(int64(n), one).Cmp(y) }
	return units(x.Lo) <= 0 && units(x.Lo+1) > 0 && units(x.Hi) >= 0 && units(x.Hi-1) < 0
}

func TestIndex(t *testing.T) { // P37.1, P37.2
	l := table()
	for w := 400; w <= 3000; w++ {
		x, e := Index(l, w)
		if e != api.OK || !encloses(x, exact(l, w)) {
			t.Fatalf("P37.2: %d: %v", w, x)
		}
	}
	if x, _ := Index([]Entry{{400, 200000}, {600, 180000}}, 450); !encloses(x, big.NewRat(195, 100)) {
		t.Errorf("P37.2: example: %v", x)
	}
	if x, e := Index([]Entry{{3000, 100000}}, 3000); x != iv(one, one) || e != api.OK {
		t.Errorf("P37.2: %v", x)
	}
	if x, e := Index([]Entry{{100, 400000}}, 100); x != iv(4*one, 4*one) || e != api.OK {
		t.Errorf("P37.2: %v", x)
	}
}

func TestSpread(t *testing.T) { // P37.3
	l := table()
	r := rand.New(rand.NewSource(1))
	for range 2000 {
		a, b := 400+r.Intn(2601), 400+r.Intn(300)
		x, e := Spread(l, a, b)
		y, _ := Spread(l, b, a)
		want := new(big.Rat).Sub(exact(l, a), exact(l, b))
		p, _ := Index(l, a)
		q, _ := Index(l, b)
		d, _ := interval.Sub(p, q)
		if _, none := interval.Meet(x, d); e != api.OK || !encloses(x, want) || y != iv(-x.Hi, -x.Lo) || none != api.OK {
			t.Fatalf("P37.3: %d %d: %v", a, b, x)
		}
		if z, _ := Spread(l, a, a); z != iv(0, 0) {
			t.Fatalf("P37.3: %d: %v", a, z)
		}
	}
	if x, _ := Spread([]Entry{{400, 200000}, {600, 180000}}, 400, 500); !encloses(x, big.NewRat(1, 10)) {
		t.Errorf("P37.3: example: %v", x)
	}
}

func TestColored(t *testing.T) { // P37.4
	b := body(t)
	l := table()
	for _, w := range []int{400, 433, 3000} {
		c, e := Colored(b, l, w)
		first, _ := Colored(b, l, 500)
		again, _ := Colored(first, l, w)
		index, _ := Index(l, w)
		if e != api.OK || !reflect.DeepEqual(again, c) || c.Index != index || !slices.Equal(c.Normals, b.Normals) || !slices.Equal(c.Depths, b.Depths) {
			t.Errorf("P37.4: %d: %v", w, e)
		}
		c.Depths[0] = iv(7, 7)
		if b.Depths[0] == iv(7, 7) {
			t.Error("P37.1: shared memory")
		}
	}
	flat := []Entry{{400, 170000}, {700, 170000}}
	c := cell.Cell{Face: 0, X: iv(0, 100), Y: iv(0, 100), U: iv(0, 9), V: iv(0, 9)}
	fire, e := Fire(b, flat, 400, 700, c, 9)
	d, e2 := Fan(b, flat, []int{400}, c, 9)
	if e != api.OK || e2 != api.OK {
		t.Fatal(e, e2)
	}
	w, _ := direction.Sub(d[0], d[0])
	if want, _ := direction.Norm2(w); fire != want {
		t.Errorf("P37.4: %v, want %v", fire, want)
	}
}

func TestFan(t *testing.T) { // P37.5, P37.6
	b, l := body(t), table()
	r := rand.New(rand.NewSource(2))
	good := 0
	for range 300 {
		w := r.Intn(one / 50)
		x, y, u, v := r.Intn(one)-one/2, r.Intn(one)-one/2, r.Intn(one/2)-one/4, r.Intn(one/2)-one/4
		c := cell.Cell{Face: 0, X: iv(x, x+w), Y: iv(y, y+w), U: iv(u, u+w/9), V: iv(v, v+w/9)}
		waves := []int{400, 450, 455, 1000}
		dirs, e := Fan(b, l, waves, c, 9)
		unknown := false
		for i, wave := range waves {
			other, _ := Colored(b, l, wave)
			p, e2 := cell.Trace(other, c, 9)
			unknown = unknown || p.Kind == trace.Unknown
			if e == api.OK && (e2 != api.OK || dirs[i] != p.Out) {
				t.Fatalf("P37.1: %d", i)
			}
		}
		if unknown != (e == api.ErrNone) || !unknown && e != api.OK || unknown && dirs != nil {
			t.Fatalf("P37.1: %v", e)
		}
		if e != api.OK {
			continue
		}
		good++
		small := cell.Cell{Face: 0, X: iv(x+w/3, x+w/2), Y: iv(y, y), U: iv(u, u+w/20), V: c.V}
		parts, e := Fan(b, l, waves, small, 9)
		for i := range waves {
			if e != api.OK || !direction.Inside(parts[i], dirs[i]) {
				t.Fatalf("P37.5: %d: %v", i, e)
			}
		}
		f, e1 := Fire(b, l, 400, 1000, c, 9)
		g, e2 := Fire(b, l, 1000, 400, c, 9)
		z, _ := Fire(b, l, 450, 450, c, 9)
		way, _ := direction.Sub(dirs[0], dirs[3])
		if want, _ := direction.Norm2(way); f != want || f != g || e1 != api.OK || e2 != api.OK || !interval.Inside(iv(0, 0), z) {
			t.Fatalf("P37.6: %v %v %v", f, g, z)
		}
	}
	if good < 50 {
		t.Errorf("one-sided test: %d", good)
	}
	if dirs, e := Fan(b, l, nil, cell.Cell{}, 9); len(dirs) != 0 || e != api.OK {
		t.Errorf("P37.1: no wavelengths: %v", e)
	}
}

func TestErrors(t *testing.T) { // P37.1
	b, l := body(t), table()
	c := cell.Cell{Face: 0}
	many := []Entry{}
	for i := range 41 {
		many = append(many, Entry{100 + i, 200000})
	}
	if !Valid(many[:40]) {
		t.Error("P37.1: 40 entries")
	}
	for i, bad := range [][]Entry{nil, many, {{99, 200000}}, {{3001, 200000}}, {{500, 99999}}, {{500, 400001}}, {{500, 200000}, {500, 200000}}, {{500, 200000}, {400, 200000}}} {
		x, e1 := Index(bad, 0)
		_, e2 := Spread(bad, 0, 0)
		o, e3 := Colored(b, bad, 0)
		d, e4 := Fan(b, bad, []int{0}, c, 99)
		_, e5 := Fire(b, bad, 0, 0, c, 99)
		if Valid(bad) || e1 != api.ErrArg || e2 != api.ErrArg || e3 != api.ErrArg || e4 != api.ErrArg || e5 != api.ErrArg || x != (api.Interval{}) || o.Normals != nil || d != nil {
			t.Errorf("P37.1: %d", i)
		}
	}
	_, e1 := Colored(trace.Body{}, l, 0)
	_, e2 := Fan(trace.Body{}, l, []int{0}, c, 9)
	_, e3 := Fire(trace.Body{}, l, 0, 0, c, 9)
	if e1 != api.ErrArg || e2 != api.ErrArg || e3 != api.ErrArg {
		t.Errorf("P37.1: %v %v %v", e1, e2, e3)
	}
	for _, w := range []int{399, 3001, -1 << 63} {
		_, e1 := Index(l, w)
		_, e2 := Spread(l, w, 500)
		_, e3 := Spread(l, 500, w)
		_, e4 := Colored(b, l, w)
		_, e5 := Fan(b, l, []int{500, w}, cell.Cell{Face: -1}, 99)
		_, e6 := Fire(b, l, 500, w, c, 99)
		for i, e := range []api.Errno{e1, e2, e3, e4, e5, e6} {
			if e != api.ErrRange {
				t.Errorf("P37.1: %d %d: %v", w, i, e)
			}
		}
	}
	if _, e := Fan(trace.Body{}, nil, make([]int, 41), c, 99); e != api.ErrLimit {
		t.Errorf("P37.1: %v", e)
	}
	waves := slices.Repeat([]int{500}, 40)
	if d, e := Fan(b, l, waves, c, 9); len(d) != 40 || e != api.OK {
		t.Errorf("P37.1: %v", e)
	}
	for i, k := range []struct {
		c    cell.Cell
		most int
		e    api.Errno
	}{{cell.Cell{Face: 9}, 99, api.ErrArg}, {c, 99, api.ErrRange}, {cell.Cell{Face: 0, X: iv(9*one, 9*one)}, 9, api.ErrState}} {
		if d, e := Fan(b, l, []int{500, 600}, k.c, k.most); e != k.e || d != nil {
			t.Errorf("P37.1: %d: %v", i, e)
		}
	}
}
