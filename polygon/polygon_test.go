package polygon

import (
	"math/rand"
	"slices"
	"testing"

	"culet/api"
	"culet/field"
	"culet/plane"
	"culet/vector"
	"culet/wheel"
)

var up = vector.Of(0, 0, 1)

func num(s string) api.Num {
	x, _ := field.Parse(s)
	return x
}

func vec(s string) api.Vec {
	v, _ := vector.Parse(s)
	return v
}

func vecs(l ...[3]int) (out []api.Vec) {
	for _, p := range l {
		out = append(out, vector.Of(p[0], p[1], p[2]))
	}
	return out
}

type shape struct {
	l []api.Vec
	n api.Vec
}

func regular(step int) []api.Vec {
	l := []api.Vec{}
	for i := 0; i < 24; i += step {
		l = append(l, api.Vec{X: wheel.Cos(i), Y: wheel.Sin(i), Z: field.Of(2)})
	}
	return l
}

func shapes() []shape {
	return []shape{
		{vecs([3]int{0, 0, 0}, [3]int{1, 0, 0}, [3]int{1, 1, 0}, [3]int{0, 1, 0}), up},
		{vecs([3]int{1, 0, 0}, [3]int{0, 1, 0}, [3]int{0, 0, 1}), vector.Of(2, 2, 2)},
		{vecs([3]int{5, 0, 1}, [3]int{0, 0, 9}, [3]int{-5, 0, 1}, [3]int{-3, 0, -1}, [3]int{3, 0, -1}), vector.Of(0, -3, 0)},
		{regular(1), up}, {regular(3), up}, {regular(8), api.Vec{X: num("0"), Y: num("0"), Z: num("1/3r6")}},
	}
}

func middle(l ...api.Vec) api.Vec {
	sum := vector.Of(0, 0, 0)
	for _, p := range l {
		sum = vector.Add(sum, p)
	}
	k, _ := field.Ratio(1, len(l))
	return vector.Scale(sum, k)
}

// plain is the definition of a convex list, word by word.
func plain(l []api.Vec, n api.Vec) bool {
	for i := range l {
		k := (i + 1) % len(l)
		if vector.Dot(n, l[i]) != vector.Dot(n, l[0]) {
			return false
		}
		for j := range l {
			if j != i && j != k && field.Sign(vector.Dot(n, vector.Cross(vector.Sub(l[k], l[i]), vector.Sub(l[j], l[i])))) <= 0 {
				return false
			}
		}
	}
	return len(l) >= 3
}

func TestValid(t *testing.T) { // P6.1
	for i, s := range shapes() {
		if !Valid(s.l, s.n) || Valid(s.l, vector.Neg(s.n)) || Valid(s.l[:2], s.n) || Valid(s.l, api.Vec{}) || Valid(s.l, vector.Of(0, 0, 0)) || Valid(append(slices.Clone(s.l), api.Vec{}), s.n) {
			t.Errorf("P6.1: %d", i)
		}
		if Valid(append(slices.Clone(s.l), s.l[0]), s.n) || Valid(append(slices.Clone(s.l), middle(s.l[0], s.l[len(s.l)-1])), s.n) || Valid(append(slices.Clone(s.l), vector.Add(s.l[0], s.n)), s.n) {
			t.Errorf("P6.1: %d: spoiled", i)
		}
	}
	star := []api.Vec{}
	for i := range 5 {
		star = append(star, vecs([3]int{10, 0, 0}, [3]int{3, 9, 0}, [3]int{-8, 6, 0}, [3]int{-8, -6, 0}, [3]int{3, -9, 0})[2*i%5])
	}
	if Valid(star, up) || Valid(slices.Concat(regular(6), regular(6)), up) || Valid(nil, up) {
		t.Error("P6.1: star")
	}
	r := rand.New(rand.NewSource(1))
	counts := [2]int{}
	for range 3000 {
		l := []api.Vec{}
		for range 3 + r.Intn(4) {
			l = append(l, vector.Of(r.Intn(5), r.Intn(5), 0))
		}
		want := plain(l, up)
		if Valid(l, up) != want {
			t.Fatalf("P6.1: %v", l)
		}
		if want {
			counts[1]++
		} else {
			counts[0]++
		}
	}
	if counts[0] == 0 || counts[1] == 0 {
		t.Error("P6.1: one-sided test")
	}
}

// parabola has many points in strictly convex position.
func parabola(n int) []api.Vec {
	l := []api.Vec{}
	for i := range n {
		l = append(l, vector.Of(i, i*i, 0))
	}
	return l
}

func TestLimits(t *testing.T) { // P6.1
	if !Valid(parabola(200), up) || Valid(parabola(201), up) {
		t.Error("P6.1: 200 points")
	}
	if l, e := Hull(parabola(200), up); len(l) != 200 || e != api.OK {
		t.Errorf("P6.1: Hull: %v", e)
	}
	if l, e := Hull(parabola(201), up); l != nil || e != api.ErrLimit {
		t.Errorf("P6.1: Hull: %v", e)
	}
	if _, e := Hull(append(parabola(201), api.Vec{}), up); e != api.ErrArg {
		t.Errorf("P6.1: Hull: %v", e)
	}
	for _, n := range []api.Vec{{}, vector.Of(0, 0, 0)} {
		if _, e := Hull(parabola(3), n); e != api.ErrArg {
			t.Errorf("P6.1: Hull: %v", e)
		}
	}
}

func TestFirst(t *testing.T) { // P6.1
	for i, s := range shapes() {
		first := First(s.l)
		for k := range s.l {
			turned := slices.Concat(s.l[k:], s.l[:k])
			if !slices.Equal(First(turned), first) || !Same(turned, s.l) {
				t.Errorf("P6.1: %d %d", i, k)
			}
		}
		for _, p := range s.l {
			if vector.Cmp(first[0], p) > 0 {
				t.Errorf("P6.1: %d: least", i)
			}
		}
		back := slices.Clone(s.l)
		slices.Reverse(back)
		if Same(back, s.l) || Same(s.l, s.l[1:]) {
			t.Errorf("P6.1: %d: reversed", i)
		}
	}
	a, b := vector.Of(0, 0, 0), vector.Of(1, 0, 0)
	if !slices.Equal(First([]api.Vec{b}), []api.Vec{b}) || !slices.Equal(First([]api.Vec{a, a, b}), []api.Vec{a, a, b}) || len(First(nil)) != 0 {
		t.Error("P6.1: First of few points")
	}
	if !slices.Equal(First([]api.Vec{b, a, b, b, a}), []api.Vec{a, b, b, a, b}) || First([]api.Vec{a, {}}) != nil || Same([]api.Vec{{}}, []api.Vec{{}}) || !Same(nil, nil) {
		t.Error("P6.1: First")
	}
}

func TestArea(t *testing.T) { // P6.2
	for i, s := range shapes() {
		area, e := Area(s.l)
		if e != api.OK || !vector.Zero(vector.Cross(area, s.n)) || field.Sign(vector.Dot(area, s.n)) != 1 {
			t.Errorf("P6.2: %d", i)
		}
		turned, _ := Area(slices.Concat(s.l[2:], s.l[:2]))
		back := slices.Clone(s.l)
		slices.Reverse(back)
		reversed, _ := Area(back)
		if turned != area || reversed != vector.Neg(area) {
			t.Errorf("P6.2: %d: order", i)
		}
	}
	if a, _ := Area(shapes()[0].l); a != up {
		t.Error("P6.2: square")
	}
	if a, _ := Area(regular(2)); a != vector.Of(0, 0, 3) {
		t.Error("P6.2: twelve points")
	}
	for _, l := range [][]api.Vec{nil, vecs([3]int{1, 2, 3}), vecs([3]int{1, 2, 3}, [3]int{4, 5, 6})} {
		if a, e := Area(l); a != vector.Of(0, 0, 0) || e != api.OK {
			t.Error("P6.2: few points")
		}
	}
	if a, e := Area([]api.Vec{{}}); a != (api.Vec{}) || e != api.ErrArg {
		t.Error("P6.2: invalid")
	}
}

func cuts() []api.Plane {
	return []api.Plane{{N: vector.Of(1, 1, 0), D: num("1")}, {N: vector.Of(1, 0, 0), D: num("0")}, {N: vector.Of(0, 1, -1), D: num("1/2")}, {N: vec("(r2, -1, 1/3)"), D: num("1")}, {N: vector.Of(1, 0, 0), D: num("1")}, {N: vector.Of(0, 0, 1), D: num("2")}, {N: vector.Of(0, 0, 1), D: num("100")}}
}

func TestClip(t *testing.T) { // P6.3
	for i, s := range shapes() {
		whole, _ := Area(s.l)
		probes := slices.Concat(s.l, []api.Vec{middle(s.l...), middle(s.l[0], s.l[1]), middle(s.l[0], s.l[2]), vector.Of(9, 9, 9)})
		for k, h := range cuts() {
			o, _ := plane.Opposite(h)
			a, e := Clip(s.l, s.n, h)
			b, e2 := Clip(s.l, s.n, o)
			av, _ := Area(a)
			bv, _ := Area(b)
			flat := true
			for _, p := range s.l {
				flat = flat && plane.Side(h, p) == 0
			}
			if e != api.OK && (e != api.ErrEmpty || a != nil) || e2 != api.OK && e2 != api.ErrEmpty || !flat && vector.Add(av, bv) != whole {
				t.Fatalf("P6.3: %d %d: %v %v", i, k, e, e2)
			}
			if flat && (!Same(a, s.l) || !Same(b, s.l)) {
				t.Fatalf("P6.3: %d %d: flat", i, k)
			}
			if e == api.ErrEmpty {
				continue
			}
			if !Valid(a, s.n) || !slices.Equal(First(a), a) {
				t.Fatalf("P6.3: %d %d: no polygon", i, k)
			}
			for _, p := range append(probes, a...) {
				if both := Contains(s.l, s.n, p) <= 0 && plane.Side(h, p) <= 0; both != (Contains(a, s.n, p) <= 0) {
					t.Fatalf("P6.3: %d %d: point", i, k)
				}
			}
		}
	}
	square := shapes()[0]
	if a, e := Clip(square.l, up, cuts()[0]); e != api.OK || !slices.Equal(a, vecs([3]int{0, 0, 0}, [3]int{1, 0, 0}, [3]int{0, 1, 0})) {
		t.Error("P6.3: example")
	}
	if _, e := Clip(square.l, vector.Of(0, 0, -1), cuts()[0]); e != api.ErrArg {
		t.Error("P6.3: no polygon")
	}
	if _, e := Clip(square.l, up, api.Plane{}); e != api.ErrArg {
		t.Error("P6.3: no plane")
	}
}

func TestHull(t *testing.T) { // P6.4
	r := rand.New(rand.NewSource(2))
	for range 60 {
		n := vector.Of(r.Intn(5)-2, r.Intn(5)-2, r.Intn(3)+1)
		points := []api.Vec{}
		for range 1 + r.Intn(12) {
			points = append(points, vector.Of(r.Intn(7), r.Intn(7), r.Intn(7)))
		}
		l := project(points, n)
		h, e := Hull(points, n)
		line := true
		for _, p := range l {
			for _, q := range l {
				line = line && vector.Zero(vector.Cross(vector.Sub(p, l[0]), vector.Sub(q, l[0])))
			}
		}
		if line != (e == api.ErrEmpty) || line && h != nil {
			t.Fatalf("P6.4: %v", e)
		}
		if line {
			continue
		}
		if !Valid(h, n) || !slices.Equal(First(h), h) || vector.Dot(h[0], n) != field.Of(0) {
			t.Fatal("P6.4: no polygon")
		}
		for _, p := range l {
			if Contains(h, n, p) > 0 {
				t.Fatal("P6.4: outside")
			}
		}
		for _, p := range h {
			if !slices.Contains(l, p) {
				t.Fatal("P6.4: other vertex")
			}
		}
		if again, _ := Hull(h, n); !slices.Equal(again, h) {
			t.Fatal("P6.4: again")
		}
		slices.Reverse(points)
		if again, _ := Hull(points, n); !slices.Equal(again, h) {
			t.Fatal("P2: order of points")
		}
	}
	for _, l := range [][]api.Vec{nil, vecs([3]int{1, 2, 3}), vecs([3]int{1, 1, 1}, [3]int{2, 2, 9}, [3]int{3, 3, 0})} {
		if h, e := Hull(l, up); h != nil || e != api.ErrEmpty {
			t.Errorf("P6.4: %v", e)
		}
	}
}

func TestPoints(t *testing.T) { // P6.5
	for i, s := range shapes() {
		for p, q := range neighbours(s.l) {
			if Contains(s.l, s.n, p) != 0 || Contains(s.l, s.n, middle(p, q)) != 0 {
				t.Errorf("P6.5: %d", i)
			}
			beyond := vector.Sub(vector.Scale(p, field.Of(2)), middle(s.l...))
			if Contains(s.l, s.n, beyond) != 1 {
				t.Errorf("P6.5: %d: beyond", i)
			}
		}
		m := middle(s.l...)
		if Contains(s.l, s.n, m) != -1 || Contains(s.l, s.n, vector.Add(m, s.n)) != 1 || Contains(s.l, s.n, api.Vec{}) != 1 || Contains(s.l, vector.Neg(s.n), m) != 1 {
			t.Errorf("P6.5: %d: middle", i)
		}
	}
}

func TestMoving(t *testing.T) { // P6.6
	shift := vec("(1, -1/2r3, 7)")
	for i, s := range shapes() {
		for turn := range 24 {
			l := []api.Vec{}
			for _, p := range s.l {
				l = append(l, vector.Add(wheel.Turn(p, turn), shift))
			}
			if !Valid(l, wheel.Turn(s.n, turn)) {
				t.Errorf("P6.6: %d %d", i, turn)
			}
		}
	}
}
