package plan

import (
	"math/rand"
	"slices"
	"testing"

	"culet/api"
	"culet/field"
	"culet/measure"
	"culet/placement"
	"culet/plane"
	"culet/separate"
	"culet/solid"
	"culet/tariff"
	"culet/vector"
)

func num(s string) api.Num {
	x, _ := field.Parse(s)
	return x
}

func vec(s string) api.Vec {
	v, _ := vector.Parse(s)
	return v
}

func block(half int) api.Solid {
	s, _ := solid.Block(half)
	return s
}

func shifted(s api.Solid, v string) api.Solid {
	out, _ := solid.Shift(s, vec(v))
	return out
}

func pyramid() api.Solid {
	l := []api.Plane{{N: vec("(0, 0, -1)"), D: num("1/2")}}
	for i := 0; i < 24; i += 6 {
		p, _ := plane.Of(api.Setting{H: 1, V: 1, Index: i}, num("1"))
		l = append(l, p)
	}
	s, _ := solid.Of(l)
	return s
}

func prices() tariff.Tariff {
	return tariff.Tariff{Material: "ruby", Classes: []tariff.Class{{From: 0, Price: 100}, {From: 20, Price: 300}}}
}

func problem() Problem {
	return Problem{
		Crystal: block(3), Flaws: []api.Solid{shifted(block(1), "(2, 2, 0)"), shifted(pyramid(), "(-2, 0, 0)")}, Designs: []api.Solid{block(1), pyramid()},
		Density: 3520, Tariff: prices(), Motions: []api.Motion{{}, {Turn: 3}}, Scales: [][2]int{{1, 1}, {3, 2}, {3, 1}}, Shifts: []api.Vec{vec("(0, 0, 0)"), vec("(1, -1, 1/2)"), vec("(2, 0, -1)"), vec("(1/3, -r2, -1)")},
	}
}

func random(r *rand.Rand) Problem {
	p := problem()
	p.Flaws = nil
	for range r.Intn(3) {
		s, _ := solid.Shift(block(1), vector.Of(r.Intn(7)-3, r.Intn(7)-3, r.Intn(7)-3))
		p.Flaws = append(p.Flaws, s)
	}
	p.Shifts = nil
	for range 1 + r.Intn(3) {
		p.Shifts = append(p.Shifts, vector.Scale(vector.Of(r.Intn(9)-4, r.Intn(9)-4, r.Intn(9)-4), num("1/2")))
	}
	p.Scales = [][2]int{{1, 1 + r.Intn(3)}, {2 + r.Intn(4), 2}}
	p.Motions = p.Motions[:1+r.Intn(2)]
	return p
}

func TestCandidates(t *testing.T) { // P45.1
	p := problem()
	n, e := Count(p)
	if n != 48 || e != api.OK || !Valid(p) {
		t.Fatalf("P45.1: %d %v", n, e)
	}
	k := 0
	for d := range p.Designs {
		for _, m := range p.Motions {
			for _, s := range p.Scales {
				for _, v := range p.Shifts {
					st, e := Stone(p, k)
					weight, value, e2 := Worth(p, k)
					fit, e3 := Fits(p, k)
					if st != (api.Stone{Design: d, Motion: m, N: s[0], D: s[1], Shift: v}) || e != api.OK {
						t.Fatalf("P45.1: %d: %v", k, st)
					}
					placed, _ := placement.Place(p.Designs[d], st)
					exact, _ := measure.Weight(placed, p.Density)
					w, _ := tariff.Value(p.Tariff, weight)
					if e2 != api.OK || e3 != api.OK || field.Cmp(field.Of(weight), exact) > 0 || field.Cmp(field.Of(weight+1), exact) <= 0 || value != w || fit != (placement.Fits(p.Crystal, p.Flaws, placed) == api.OK) {
						t.Fatalf("P45.1: %d: %d %d %v", k, weight, value, fit)
					}
					k++
				}
			}
		}
	}
	for _, k := range []int{-1, 48} {
		st, e1 := Stone(p, k)
		_, _, e2 := Worth(p, k)
		fit, e3 := Fits(p, k)
		if e1 != api.ErrRange || e2 != api.ErrRange || e3 != api.ErrRange || st != (api.Stone{}) || fit {
			t.Errorf("P45.1: %d: %v %v %v", k, e1, e2, e3)
		}
	}
}

func TestBest(t *testing.T) { // P45.2, P45.3, P45.6, W8
	r := rand.New(rand.NewSource(1))
	far := problem()
	far.Shifts = far.Shifts[2:3]
	far.Shifts[0] = vec("(9, 0, 0)")
	problems := []Problem{problem(), far}
	for range 12 {
		problems = append(problems, random(r))
	}
	none, reasons := 0, [2]int{}
	for i, p := range problems {
		k, value, e := Best(p)
		x, e2 := Prove(p)
		want, most := -1, -1
		n, _ := Count(p)
		for j := range n {
			fit, _ := Fits(p, j)
			if _, v, _ := Worth(p, j); fit && v > most {
				want, most = j, v
			}
		}
		if want < 0 {
			none++
			if e != api.ErrNone || e2 != api.ErrNone || k != 0 || value != 0 {
				t.Fatalf("P45.2: %d: %v", i, e)
			}
			continue
		}
		if k != want || value != most || e != api.OK || e2 != api.OK || x.Best != want || Check(p, x) != api.OK {
			t.Fatalf("P45.3: %d: %d, want %d: %v %v", i, k, want, e2, Check(p, x))
		}
		st, _ := Stone(p, k)
		placed, _ := placement.Place(p.Designs[st.Design], st)
		if !separate.Inside(placed, p.Crystal) || slices.ContainsFunc(p.Flaws, func(f api.Solid) bool { return !separate.Disjoint(f, placed) }) {
			t.Errorf("W8: %d", i)
		}
		for _, q := range x.Reasons {
			reasons[min(q.Flaw, 0)+1]++
		}
		for j := range n {
			y := x
			y.Best = j
			if j != k && Check(p, y) == api.OK {
				t.Errorf("P45.6: %d: %d", i, j)
			}
		}
	}
	if none == 0 || reasons[0] == 0 || reasons[1] == 0 {
		t.Errorf("one-sided test: %d %v", none, reasons)
	}
}

func TestWrong(t *testing.T) { // P45.1, P45.6
	p := problem()
	x, _ := Prove(p)
	at := slices.IndexFunc(x.Reasons, func(r Reason) bool { return r.Flaw >= 0 })
	out := slices.IndexFunc(x.Reasons, func(r Reason) bool { return r.Flaw < 0 })
	if len(x.Reasons) < 3 || at < 0 || out < 0 {
		t.Fatalf("%v", x)
	}
	for i, c := range []struct {
		f func(x *Proof)
		e api.Errno
	}{
		{func(x *Proof) { x.Best = -1 }, api.ErrRange}, {func(x *Proof) { x.Best = 48; x.Reasons = nil }, api.ErrRange}, {func(x *Proof) { x.Best = x.Reasons[0].Candidate }, api.ErrOverlap}, {func(x *Proof) { x.Reasons = x.Reasons[1:] }, api.ErrOrder}, {func(x *Proof) { x.Reasons = x.Reasons[:1] }, api.ErrOrder}, {func(x *Proof) { x.Reasons = append(x.Reasons, x.Reasons[0]) }, api.ErrOrder}, {func(x *Proof) { x.Reasons[0], x.Reasons[1] = x.Reasons[1], x.Reasons[0] }, api.ErrOrder}, {func(x *Proof) { x.Reasons[0].Candidate = -7 }, api.ErrOrder},
		{func(x *Proof) { x.Reasons[at].Flaw = 2 }, api.ErrProof}, {func(x *Proof) { x.Reasons[at].Flaw = -2 }, api.ErrProof}, {func(x *Proof) { x.Reasons[at].Flaw = -1 }, api.ErrProof}, {func(x *Proof) { x.Reasons[at].Point = vec("(9, 9, 9)") }, api.ErrProof}, {func(x *Proof) { x.Reasons[at].Point = api.Vec{} }, api.ErrProof}, {func(x *Proof) { x.Reasons[out].Point = vec("(9, 9, 9)") }, api.ErrProof}, {func(x *Proof) { x.Reasons[out].Point = vec("(0, 0, 0)") }, api.ErrProof}, {func(x *Proof) { x.Reasons[out].Flaw = 0 }, api.ErrProof},
	} {
		y := Proof{x.Best, slices.Clone(x.Reasons)}
		c.f(&y)
		if e := Check(p, y); e != c.e {
			t.Errorf("P45.1: %d: %v", i, e)
		}
	}
}

func TestGrid(t *testing.T) { // P45.4, P45.5, P45.7
	r := rand.New(rand.NewSource(2))
	for i := range 8 {
		p := random(r)
		k, value, e := Best(p)
		worse := p
		worse.Flaws = append(slices.Clone(p.Flaws), shifted(block(1), "(1, 0, -1)"))
		_, v, e2 := Best(worse)
		if e != api.OK && e2 == api.OK || v > value {
			t.Errorf("P45.4: %d", i)
		}
		more := p
		more.Shifts = append(slices.Clone(p.Shifts), vec("(-1/2, 1/2, 0)"))
		if _, v, e2 := Best(more); e == api.OK && (e2 != api.OK || v < value) {
			t.Errorf("P45.5: %d", i)
		}
		to := "(5, -r3, 1/7)"
		moved := p
		moved.Crystal = shifted(p.Crystal, to)
		moved.Flaws, moved.Shifts = nil, nil
		for _, f := range p.Flaws {
			moved.Flaws = append(moved.Flaws, shifted(f, to))
		}
		for _, s := range p.Shifts {
			moved.Shifts = append(moved.Shifts, vector.Add(s, vec(to)))
		}
		if j, v, e2 := Best(moved); j != k || v != value || e2 != e {
			t.Errorf("P45.7: %d", i)
		}
	}
	p := Problem{Crystal: block(2), Designs: []api.Solid{block(1)}, Density: 1000, Tariff: prices(), Motions: []api.Motion{{}}, Scales: [][2]int{{1, 1}, {2, 1}}, Shifts: []api.Vec{vec("(0, 0, 0)")}}
	if k, v, e := Best(p); k != 1 || v != 64*300/1000 || e != api.OK {
		t.Errorf("P45.2: example: %d %d %v", k, v, e)
	}
	p.Tariff.Classes = []tariff.Class{{From: 0, Price: 0}}
	if k, v, e := Best(p); k != 0 || v != 0 || e != api.OK {
		t.Errorf("P45.2: the first one: %d %v", k, e)
	}
}

func TestInvalid(t *testing.T) { // P45.1
	bad := block(1)
	bad.Faces = nil
	for i, f := range []func(p *Problem){
		func(p *Problem) { p.Crystal = bad }, func(p *Problem) { p.Flaws[1] = bad }, func(p *Problem) { p.Flaws = slices.Repeat(p.Flaws[:1], 21) }, func(p *Problem) { p.Designs[1] = bad }, func(p *Problem) { p.Designs = nil }, func(p *Problem) { p.Designs = slices.Repeat(p.Designs[:1], 11) }, func(p *Problem) { p.Density = 0 }, func(p *Problem) { p.Density = 30001 }, func(p *Problem) { p.Tariff.Material = "at" }, func(p *Problem) { p.Motions[1].Turn = 24 }, func(p *Problem) { p.Motions = nil }, func(p *Problem) { p.Scales[1][0] = 0 }, func(p *Problem) { p.Scales[1][1] = 1001 }, func(p *Problem) { p.Scales = nil }, func(p *Problem) { p.Shifts[1] = api.Vec{} }, func(p *Problem) { p.Shifts = nil }, func(p *Problem) { p.Shifts = slices.Repeat(p.Shifts[:1], 17) }, func(p *Problem) { p.Shifts = slices.Repeat(p.Shifts[:1], 300) },
	} {
		p := problem()
		f(&p)
		n, e1 := Count(p)
		_, e2 := Stone(p, -1)
		_, _, e3 := Worth(p, -1)
		_, e4 := Fits(p, -1)
		_, _, e5 := Best(p)
		_, e6 := Prove(p)
		e7 := Check(p, Proof{Best: -1})
		for k, e := range []api.Errno{e1, e2, e3, e4, e5, e6, e7} {
			if e != api.ErrArg {
				t.Errorf("P45.1: %d %d: %v", i, k, e)
			}
		}
		if Valid(p) || n != 0 {
			t.Errorf("P45.1: %d", i)
		}
	}
	p := problem()
	p.Shifts = slices.Repeat(p.Shifts[:1], 16)
	p.Flaws = slices.Repeat(p.Flaws[:1], 20)
	if n, e := Count(p); n != 192 || e != api.OK {
		t.Errorf("P45.1: %d %v", n, e)
	}
	p = problem()
	p.Scales[2] = [2]int{1000, 1}
	_, _, e1 := Worth(p, 8)
	_, _, e2 := Best(p)
	_, e3 := Prove(p)
	if e4 := Check(p, Proof{Best: -1}); e1 != api.ErrLimit || e2 != api.ErrLimit || e3 != api.ErrLimit || e4 != api.ErrLimit {
		t.Errorf("P45.1: %v %v %v %v", e1, e2, e3, e4)
	}
	p.Scales[2] = [2]int{500, 1}
	p.Density = 1000
	if w, v, e := Worth(p, 8); w != 1000000000 || v != 0 || e != api.OK {
		t.Errorf("P45.1: %d %d %v", w, v, e)
	}
	p.Density = 1001
	if w, _, e := Worth(p, 8); w != 0 || e != api.ErrLimit {
		t.Errorf("P45.1: %d %v", w, e)
	}
	p.Density = 3520
	p.Scales[2] = [2]int{60, 1}
	if w, v, e := Worth(p, 8); w < 1000001 || v != 0 || e != api.OK {
		t.Errorf("P45.1: %d %d %v", w, v, e)
	}
}
