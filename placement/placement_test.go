package placement

import (
	"slices"
	"testing"

	"culet/api"
	"culet/field"
	"culet/plane"
	"culet/separate"
	"culet/solid"
	"culet/vector"
	"culet/wheel"
)

func num(s string) api.Num {
	x, _ := field.Parse(s)
	return x
}

func vec(s string) api.Vec {
	v, _ := vector.Parse(s)
	return v
}

func block(half int) api.Solid {
	s, _ := solid.Block(half)
	return s
}

func shifted(s api.Solid, v string) api.Solid {
	out, _ := solid.Shift(s, vec(v))
	return out
}

func pyramid() api.Solid {
	l := []api.Plane{{N: vec("(0, 0, -1)"), D: num("1/2")}}
	for i := 0; i < 24; i += 6 {
		p, _ := plane.Of(api.Setting{H: 1, V: 1, Index: i}, num("1"))
		l = append(l, p)
	}
	s, _ := solid.Of(l)
	return s
}

func rough() api.Solid {
	l := append(block(3).Planes, api.Plane{N: vec("(1, 1, 1)"), D: num("4")}, api.Plane{N: vec("(-1, r2, 1/3)"), D: num("5")})
	s, _ := solid.Of(l)
	return s
}

func stone(turn int, flip bool, n, d int, at string) api.Stone {
	return api.Stone{Motion: api.Motion{Turn: turn, Flip: flip}, N: n, D: d, Shift: vec(at)}
}

func TestPlace(t *testing.T) { // P43.1, P43.4
	for _, base := range []api.Solid{block(1), pyramid()} {
		for _, st := range []api.Stone{stone(0, false, 1, 1, "(0, 0, 0)"), stone(5, true, 2, 3, "(1, -r2, 1/3)"), stone(12, false, 1000, 999, "(0, 7, 0)")} {
			s, e := Place(base, st)
			if e != api.OK || !solid.Valid(s) || !Valid(st) {
				t.Fatalf("P43.1: %v", e)
			}
			k, _ := field.Ratio(st.N, st.D)
			points := append(slices.Clone(base.Verts), vec("(0, 0, 0)"), vec("(1/2, 1/3, 1/4)"), vec("(2, 0, 0)"), vec("(0, 0, 3/4)"))
			for _, v := range points {
				w := vector.Add(vector.Scale(wheel.Move(v, st.Motion), k), st.Shift)
				if solid.Contains(base, v) != solid.Contains(s, w) {
					t.Errorf("P43.4: %v: %s", st, vector.Print(v))
				}
			}
		}
	}
	good := stone(0, false, 1, 1, "(0, 0, 0)")
	for i, f := range []func(st *api.Stone){
		func(st *api.Stone) { st.Motion.Turn = 24 }, func(st *api.Stone) { st.Motion.Turn = -1 }, func(st *api.Stone) { st.N = 0 }, func(st *api.Stone) { st.N = 1001 }, func(st *api.Stone) { st.D = 0 }, func(st *api.Stone) { st.D = 1001 }, func(st *api.Stone) { st.Shift = api.Vec{} }, func(st *api.Stone) { st.Design = -1 },
	} {
		st := good
		f(&st)
		if s, e := Place(block(1), st); Valid(st) || e != api.ErrArg || len(s.Planes) > 0 {
			t.Errorf("P43.1: %d: %v", i, e)
		}
	}
	if _, e := Place(api.Solid{}, good); e != api.ErrArg {
		t.Errorf("P43.1: %v", e)
	}
	good.Design = 1 << 40
	if !Valid(good) {
		t.Error("P43.1: any design")
	}
}

func TestFits(t *testing.T) { // P43.1, P43.6
	crystal := rough()
	flaws := []api.Solid{shifted(block(1), "(-3, -3, -3)"), shifted(pyramid(), "(0, 0, -2)"), shifted(block(1), "(0, 3, 0)")}
	for i, c := range []struct {
		s     api.Solid
		e     api.Errno
		first int
	}{{block(1), api.OK, -1}, {shifted(block(1), "(2, 2, 2)"), api.ErrRange, 2}, {shifted(block(1), "(3, 0, 0)"), api.ErrRange, -1}, {shifted(block(1), "(0, 0, -1)"), api.ErrOverlap, 1}, {shifted(block(1), "(-2, -2, -2)"), api.ErrOverlap, 0}, {block(2), api.ErrRange, 0}, {shifted(block(1), "(0, 3/2, -1)"), api.ErrOverlap, 2}} {
		e := Fits(crystal, flaws, c.s)
		first, e2 := First(crystal, flaws, c.s)
		want := slices.IndexFunc(flaws, func(f api.Solid) bool { return !separate.Disjoint(f, c.s) })
		if e != c.e && !(i == 5 && e == api.ErrRange) || (want >= 0) != (e2 == api.OK) || want >= 0 && first != want || want < 0 && (e2 != api.ErrNone || first != 0) {
			t.Errorf("P43.1: %d: %v %d %v, want %d", i, e, first, e2, want)
		}
		if e == api.OK {
			for k := range flaws {
				if Fits(crystal, flaws[:k], c.s) != api.OK || Fits(crystal, flaws[k:], c.s) != api.OK {
					t.Errorf("P43.6: %d", i)
				}
			}
		}
	}
	bad := block(1)
	bad.Faces = nil
	many := slices.Repeat([]api.Solid{block(1)}, 21)
	far := shifted(block(1), "(9, 9, 9)")
	for i, c := range []struct {
		crystal, s api.Solid
		flaws      []api.Solid
		fits, e    api.Errno
	}{{bad, bad, append(many, bad), api.ErrLimit, api.ErrLimit}, {bad, far, nil, api.ErrArg, api.ErrArg}, {crystal, bad, nil, api.ErrArg, api.ErrArg}, {crystal, far, []api.Solid{bad}, api.ErrArg, api.ErrArg}, {crystal, far, []api.Solid{far}, api.ErrRange, api.OK}, {crystal, block(1), many[:20], api.ErrOverlap, api.OK}, {crystal, block(1), nil, api.OK, api.ErrNone}} {
		k, e := First(c.crystal, c.flaws, c.s)
		if f := Fits(c.crystal, c.flaws, c.s); f != c.fits || e != c.e || k != 0 {
			t.Errorf("P43.1: %d: %v %v", i, f, e)
		}
	}
}

func TestGreatest(t *testing.T) { // P43.2, P43.5
	for i, crystal := range []api.Solid{block(2), rough()} {
		for j, base := range []api.Solid{block(1), pyramid(), shifted(pyramid(), "(0, 0, 1)"), shifted(block(1), "(1/2, 1/3, 0)")} {
			for _, at := range []string{"(0, 0, 0)", "(1, 0, 0)", "(1/3, -1/2r2, -1)"} {
				k, e := Greatest(crystal, base, vec(at))
				if e != api.OK || field.Sign(k) <= 0 {
					t.Fatalf("P43.2: %d %d: %v", i, j, e)
				}
				inside := func(k api.Num) bool {
					s, _ := solid.Scale(base, k)
					return separate.Inside(shifted(s, at), crystal)
				}
				if !inside(k) || inside(field.Mul(k, num("1.000001"))) {
					t.Errorf("P43.2: %d %d: %s", i, j, at)
				}
				if !inside(field.Mul(k, num("1/2"))) || !inside(field.Mul(k, num("1/1000"))) {
					t.Errorf("P43.5: %d %d: %s", i, j, at)
				}
			}
		}
	}
	if k, _ := Greatest(block(2), block(1), vec("(1, 0, 0)")); k != num("1") {
		t.Errorf("P43.2: example: %s", field.Print(k))
	}
	bad := block(1)
	bad.Faces = nil
	for i, c := range []struct {
		crystal, base api.Solid
		at            api.Vec
		e             api.Errno
	}{{bad, block(1), vec("(9, 0, 0)"), api.ErrArg}, {block(1), bad, vec("(9, 0, 0)"), api.ErrArg}, {block(1), block(1), api.Vec{}, api.ErrArg}, {block(1), block(1), vec("(1, 0, 0)"), api.ErrRange}, {block(1), block(1), vec("(2, 0, 0)"), api.ErrRange}} {
		if k, e := Greatest(c.crystal, c.base, c.at); k != (api.Num{}) || e != c.e {
			t.Errorf("P43.1: %d: %v", i, e)
		}
	}
}

func TestRounded(t *testing.T) { // P43.3
	for _, k := range []string{"1", "1/2", "r2", "999/1000", "7", "1000", "1/1000"} {
		for _, d := range []int{1, 2, 7, 100, 1000} {
			n, e := Rounded(num(k), d)
			lo, _ := field.Ratio(n, d)
			hi, _ := field.Ratio(n+1, d)
			if e == api.OK && (field.Cmp(lo, num(k)) > 0 || field.Cmp(hi, num(k)) <= 0 || n < 1 || n > 1000) {
				t.Errorf("P43.3: %s with %d: %d", k, d, n)
			}
			floor := field.Floor(field.Mul(num(k), field.Of(d)))
			one, _ := field.Make([4]api.Int{floor}, api.Int{Mag: "\x01"})
			if in := field.Cmp(one, num("1")) >= 0 && field.Cmp(one, num("1000")) <= 0; in != (e == api.OK) || !in && (e != api.ErrRange || n != 0) {
				t.Errorf("P43.3: %s with %d: %v", k, d, e)
			}
		}
	}
	for i, c := range []struct {
		k api.Num
		d int
		e api.Errno
	}{{api.Num{}, 1, api.ErrArg}, {num("1"), 0, api.ErrArg}, {num("1"), 1001, api.ErrArg}, {num("0"), 1, api.ErrRange}, {num("-5"), 1, api.ErrRange}, {num("99999999999999999999999"), 1, api.ErrRange}} {
		if n, e := Rounded(c.k, c.d); n != 0 || e != c.e {
			t.Errorf("P43.1: %d: %v", i, e)
		}
	}
}

func TestOverlap(t *testing.T) { // P43.1
	l := []api.Solid{block(1), shifted(block(1), "(2, 0, 0)"), shifted(block(1), "(4, 0, 0)"), shifted(block(1), "(3, 0, 0)")}
	if i, k, e := Overlap(l); i != 1 || k != 3 || e != api.OK {
		t.Errorf("P43.1: %d %d %v", i, k, e)
	}
	for n, c := range []struct {
		l []api.Solid
		e api.Errno
	}{{l[:3], api.ErrNone}, {nil, api.ErrNone}, {append(slices.Clone(l), api.Solid{}), api.ErrArg}, {make([]api.Solid, 21), api.ErrLimit}} {
		if i, k, e := Overlap(c.l); i != 0 || k != 0 || e != c.e {
			t.Errorf("P43.1: %d: %v", n, e)
		}
	}
	if i, k, e := Overlap(slices.Repeat(l[:1], 20)); i != 0 || k != 1 || e != api.OK {
		t.Errorf("P43.1: %v", e)
	}
}
