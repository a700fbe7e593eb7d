package recut

import (
	"slices"
	"testing"

	"culet/api"
	"culet/cut"
	"culet/field"
	"culet/measure"
	"culet/plane"
	"culet/separate"
	"culet/solid"
	"culet/vector"
)

func num(s string) api.Num {
	x, _ := field.Parse(s)
	return x
}

func vec(s string) api.Vec {
	v, _ := vector.Parse(s)
	return v
}

func of(n, d string) api.Plane { return api.Plane{N: vec(n), D: num(d)} }

func block(half int, at string) api.Solid {
	s, _ := solid.Block(half)
	s, _ = solid.Shift(s, vec(at))
	return s
}

func stone() api.Solid {
	l := []api.Plane{of("(0, 0, -1)", "1"), of("(0, 0, 1)", "1")}
	for i := 1; i < 24; i += 4 {
		p, _ := plane.Of(api.Setting{H: 2, V: 1, Index: i}, num("4"))
		l = append(l, p)
	}
	s, _ := solid.Of(l)
	return s
}

func stones() []api.Solid { return []api.Solid{block(2, "(0, 0, 0)"), stone()} }

func chips() []api.Solid {
	small, _ := solid.Scale(block(1, "(0, 0, 0)"), num("1/3"))
	small, _ = solid.Shift(small, vec("(1/4, -7/4, 2/3)"))
	return []api.Solid{block(1, "(2, 2, 2)"), small, block(1, "(5, 0, 0)"), block(1, "(0, 0, 0)"), block(9, "(0, 0, 0)")}
}

func repairs() [][]api.Plane {
	return [][]api.Plane{nil, {of("(1, 0, 0)", "1")}, {of("(1, 1, 1)", "3")}, {of("(1, 1, 1)", "2"), of("(1, 0, -1)", "1/2")}, {of("(0, 0, 1)", "-9")}, {of("(0, 0, 1)", "1/3")}, {of("(0, -1, 0)", "r2")}}
}

func volume(s api.Solid) api.Num {
	v, _ := measure.Volume(s)
	return v
}

func TestRepaired(t *testing.T) { // P51.1, P51.2, P51.5, P51.7
	for i, s := range stones() {
		for k, l := range repairs() {
			out, loss, e := Repair(s, l)
			want, we := solid.Of(slices.Concat(s.Planes, l))
			if e != we || e != api.OK && (len(out.Planes) > 0 || loss != (api.Num{})) {
				t.Fatalf("P51.1: %d %d: %v", i, k, e)
			}
			if e != api.OK {
				continue
			}
			if !solid.Valid(out) || !slices.Equal(out.Verts, want.Verts) || !separate.Inside(out, s) || field.Add(volume(out), loss) != volume(s) {
				t.Errorf("P51.2: %d %d", i, k)
			}
			for j, m := range repairs() {
				both, more, e := Repair(s, slices.Concat(l, m))
				step, rest, e2 := Repair(out, m)
				if e != e2 || e == api.OK && (!solid.Equal(both, step) || field.Add(loss, rest) != more) {
					t.Errorf("P51.7: %d %d %d: %v %v", i, k, j, e, e2)
				}
				for c, chip := range chips() {
					before, _ := Clean(s, chip, l)
					after, _ := Clean(s, chip, slices.Concat(l, m))
					if e == api.OK && (field.Cmp(more, loss) < 0 || before && !after) {
						t.Errorf("P51.5: %d %d %d %d", i, k, j, c)
					}
				}
			}
		}
	}
}

func TestClean(t *testing.T) { // P51.1, P51.6
	seen := [2]int{}
	for i, s := range stones() {
		for c, chip := range chips() {
			for k, l := range repairs() {
				ok, e := Clean(s, chip, l)
				out, _, e2 := Repair(s, l)
				if e != api.OK || ok != (e2 == api.OK && separate.Disjoint(out, chip)) {
					t.Errorf("P51.1: %d %d %d: %v", i, c, k, e)
				}
				if ok {
					seen[1]++
				} else {
					seen[0]++
				}
			}
			if separate.Disjoint(s, chip) {
				at, loss, e := Best(s, chip, [][]api.Plane{repairs()[1], nil})
				if ok, _ := Clean(s, chip, nil); !ok || at != 1 || loss != num("0") || e != api.OK {
					t.Errorf("P51.6: %d %d: %d %v", i, c, at, e)
				}
			}
			touched, e := Touched(s, chip)
			for f, face := range s.Faces {
				want := slices.ContainsFunc(face.Loop, func(v int) bool { return solid.Contains(chip, s.Verts[v]) != 1 })
				if e != api.OK || want != slices.Contains(touched, f) {
					t.Errorf("P51.1: %d %d: touched %v", i, c, touched)
				}
			}
		}
	}
	if seen[0] == 0 || seen[1] == 0 {
		t.Errorf("one-sided test: %v", seen)
	}
}

func TestDeepened(t *testing.T) { // P51.3, W10
	for i, s := range stones() {
		for c, chip := range chips() {
			clean, e := Repairs(s, chip)
			if e != api.OK || !slices.IsSorted(clean) {
				t.Fatal(e)
			}
			best, least := -1, api.Num{}
			for f := range s.Faces {
				p, e := Deepened(s, chip, f)
				touches := false
				for _, v := range chip.Verts {
					side := plane.Side(p, v)
					touches = touches || side == 0
					if side < 0 {
						t.Errorf("P51.3: %d %d %d", i, c, f)
					}
				}
				left, _, e2 := cut.Cut(s, p)
				ok, _ := Clean(s, chip, []api.Plane{p})
				if e != api.OK || !touches || p.N != s.Planes[s.Faces[f].Plane].N || ok != (e2 == api.OK) || ok != slices.Contains(clean, f) {
					t.Errorf("P51.3: %d %d %d: %v", i, c, f, ok)
				}
				removed, _ := measure.Removed(s, p)
				if ok && (best < 0 || field.Cmp(removed, least) < 0) {
					best, least = f, removed
				}
				if ok && !separate.Disjoint(left, chip) {
					t.Errorf("W10: %d %d %d", i, c, f)
				}
			}
			face, loss, e := Cheapest(s, chip)
			if best < 0 {
				if e != api.ErrNone || face != 0 || loss != (api.Num{}) {
					t.Errorf("P51.1: %d %d: %v", i, c, e)
				}
				continue
			}
			if face != best || loss != least || e != api.OK {
				t.Errorf("W10: %d %d: %d, want %d", i, c, face, best)
			}
		}
	}
	s, chip := stones()[0], chips()[0]
	p, _ := Deepened(s, chip, 0)
	if face, loss, _ := Cheapest(s, chip); p != of("(1, 0, 0)", "1") || face != 0 || loss != num("16") {
		t.Errorf("P51.3: example: %d %s", face, field.Print(loss))
	}
}

func TestBest(t *testing.T) { // P51.4
	for i, s := range stones() {
		for c, chip := range chips() {
			at, loss, e := Best(s, chip, repairs())
			want, least := -1, api.Num{}
			for k, l := range repairs() {
				ok, _ := Clean(s, chip, l)
				_, x, _ := Repair(s, l)
				if ok && (want < 0 || field.Cmp(x, least) < 0) {
					want, least = k, x
				}
			}
			if want < 0 && e != api.ErrNone || want >= 0 && (at != want || loss != least || e != api.OK) {
				t.Errorf("P51.4: %d %d: %d %v, want %d", i, c, at, e, want)
			}
		}
	}
	twice := [][]api.Plane{{of("(0, 0, 1)", "-9")}, repairs()[1], repairs()[1]}
	if at, loss, e := Best(stones()[0], chips()[0], twice); at != 1 || loss != num("16") || e != api.OK {
		t.Errorf("P51.4: the first one: %d %v", at, e)
	}
	if _, _, e := Best(stones()[0], chips()[0], nil); e != api.ErrNone {
		t.Errorf("P51.1: %v", e)
	}
}

func TestErrors(t *testing.T) { // P51.1
	s, chip := stones()[0], chips()[0]
	bad := s
	bad.Faces = nil
	wrong := []api.Plane{{}}
	full, _ := solid.Of(slices.Repeat(s.Planes, 17)[:100])
	_, _, e1 := Repair(bad, nil)
	_, _, e0 := Repair(full, wrong)
	_, e3 := Clean(bad, chip, nil)
	_, e4 := Clean(s, bad, nil)
	_, e5 := Clean(full, chip, wrong)
	_, e6 := Deepened(bad, chip, -1)
	_, e7 := Deepened(s, bad, -1)
	_, e8 := Repairs(bad, chip)
	_, e9 := Repairs(full, bad)
	_, _, e10 := Best(bad, chip, nil)
	_, _, e11 := Best(s, bad, nil)
	_, _, e12 := Best(full, chip, slices.Repeat([][]api.Plane{wrong}, 21))
	_, _, e13 := Cheapest(bad, chip)
	_, _, e14 := Cheapest(full, bad)
	_, e15 := Touched(bad, chip)
	_, e16 := Touched(s, bad)
	for i, e := range []api.Errno{e1, e0, e3, e4, e5, e6, e7, e8, e9, e10, e11, e12, e13, e14, e15, e16} {
		if e != api.ErrArg {
			t.Errorf("P51.1: %d: %v", i+1, e)
		}
	}
	one := repairs()[1]
	_, _, e1 = Repair(full, []api.Plane{of("(0, 0, 1)", "-9")})
	clean, e2 := Clean(full, chip, one)
	if clean {
		t.Error("P51.1: Clean")
	}
	_, e3 = Repairs(full, chip)
	_, _, e4 = Best(full, chip, [][]api.Plane{nil, one})
	_, _, e5 = Best(s, chip, slices.Repeat([][]api.Plane{one}, 21))
	_, _, e6 = Cheapest(full, chip)
	for i, e := range []api.Errno{e1, e2, e3, e4, e5, e6} {
		if e != api.ErrLimit {
			t.Errorf("P51.1: %d: %v", i+1, e)
		}
	}
	if out, loss, e := Repair(full, nil); e != api.OK || len(out.Planes) != 100 || loss != num("0") {
		t.Errorf("P51.1: %v", e)
	}
	if _, _, e := Best(s, chip, slices.Repeat([][]api.Plane{one}, 20)); e != api.OK {
		t.Errorf("P51.1: %v", e)
	}
	for _, f := range []int{-1, 6} {
		if p, e := Deepened(s, chip, f); p != (api.Plane{}) || e != api.ErrRange {
			t.Errorf("P51.1: %d: %v", f, e)
		}
	}
}
