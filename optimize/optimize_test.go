package optimize

import (
	"reflect"
	"slices"
	"testing"

	"culet/api"
	"culet/brightness"
	"culet/format"
	"culet/interval"
	"culet/resolve"
	"culet/syntax"
	"culet/trace"
)

const one = interval.Unit

func iv(lo, hi int) api.Interval { return api.Interval{Lo: lo, Hi: hi} }

func parse(t *testing.T, text string) api.Design {
	t.Helper()
	d, at, e := syntax.Parse(text)
	if e != api.OK {
		t.Fatal(text, at, e)
	}
	return d
}

// roof returns light from straight above if its angle is 1/-1.
func roof(t *testing.T) api.Design {
	return parse(t, `design roof order 2
		tier t angle 0/1 at 0 depth "1/3"
		tier g angle 1/0 at 6 depth 1
		tier p angle 1/-1 at 0 depth 1`)
}

func grid() brightness.Grid {
	return brightness.Grid{Half: one, Cone: 0, Steps: 8, Turns: 1}
}

func choices() []Choice {
	return []Choice{{"p", 1, -1}, {"p", 1, -9}, {"p", 9, -10}, {"p", 2, -2}, {"x", 1, 1}, {"p", 1, 0}, {"p", 3, -1}}
}

func index() api.Interval { return iv(2*one, 2*one) }

func TestChange(t *testing.T) { // P39.1, P39.5
	d := roof(t)
	for _, x := range d.Tiers {
		if out, e := Change(d, Choice{x.Name, x.H, x.V}); !format.Equal(out, d) || e != api.OK {
			t.Errorf("P39.5: %s: %v", x.Name, e)
		}
	}
	out, e := Change(d, Choice{"p", 3, -4})
	if e != api.OK || out.Tiers[2].H != 3 || out.Tiers[2].V != -4 || d.Tiers[2].H != 1 {
		t.Errorf("P39.1: %v", e)
	}
	out.Tiers[2].Indices[0] = 5
	if d.Tiers[2].Indices[0] != 0 {
		t.Error("P39.1: shared memory")
	}
	bad := roof(t)
	bad.Order = 5
	for i, c := range []struct {
		d api.Design
		c Choice
		e api.Errno
	}{{bad, Choice{"x", 1, 1}, api.ErrArg}, {d, Choice{"x", 2, 2}, api.ErrName}, {d, Choice{"p", 2, 2}, api.ErrAngle}, {d, Choice{"g", 0, 1}, api.ErrRange}, {d, Choice{"p", 0, 1}, api.ErrExist}} {
		if out, e := Change(c.d, c.c); e != c.e || out.Name != "" {
			t.Errorf("P39.1: %d: %v", i, e)
		}
	}
}

func TestBounds(t *testing.T) { // P39.1
	d := roof(t)
	x, e := Bounds(d, index(), grid(), 2, 6)
	r, _, _ := resolve.Resolve(d)
	b, _ := trace.Prepare(r.Solid, index())
	if want, _ := brightness.Brightness(b, grid(), 2, 6); x != want || e != api.OK || x.Lo == 0 {
		t.Errorf("P39.1: %v %v", x, e)
	}
	open := parse(t, "design x order 4 tier C angle 1/1 at 0 depth 1")
	far := parse(t, "design far order 4 tier a angle 0/1 at 0 depth 99 tier b angle 0/-1 at 0 depth 1 tier c angle 1/0 at 0 depth 1")
	for i, c := range []struct {
		d     api.Design
		index api.Interval
		g     brightness.Grid
		depth int
		e     api.Errno
	}{{open, iv(0, 0), brightness.Grid{}, 99, api.ErrOpen}, {d, iv(0, 0), brightness.Grid{}, 99, api.ErrArg}, {far, index(), brightness.Grid{}, 99, api.ErrLimit}, {d, index(), brightness.Grid{}, 99, api.ErrArg}, {d, index(), grid(), 99, api.ErrRange}, {d, index(), brightness.Grid{Half: 60 * one, Cone: 0, Steps: 1, Turns: 1}, 0, api.ErrNone}} {
		if x, e := Bounds(c.d, c.index, c.g, c.depth, 5); x != (api.Interval{}) || e != c.e {
			t.Errorf("P39.1: %d: %v", i, e)
		}
	}
}

func TestKeep(t *testing.T) { // P39.2
	of := func(l ...api.Interval) (c []Candidate) {
		for _, x := range l {
			c = append(c, Candidate{Bounds: x})
		}
		return c
	}
	for i, c := range []struct {
		l    []Candidate
		want []int
	}{
		{nil, nil}, {of(iv(0, 4), iv(2, 6), iv(0, 1)), []int{0, 1}}, {of(iv(0, 1), iv(5, 6)), []int{1}}, {of(iv(0, 5), iv(5, 6)), []int{0, 1}}, {of(iv(-9, -7), iv(-8, -6), iv(-99, -9)), []int{0, 1}}, {of(iv(3, 3), iv(3, 3), iv(2, 2)), []int{0, 1}},
	} {
		if kept, e := Keep(c.l); !slices.Equal(kept, c.want) || e != api.OK {
			t.Errorf("P39.2: %d: %v", i, kept)
		}
	}
	if kept, e := Keep(of(iv(0, 1), iv(1, 0))); kept != nil || e != api.ErrArg {
		t.Errorf("P39.2: %v", e)
	}
}

func TestSearch(t *testing.T) { // P39.1, P39.2, P39.3
	d := roof(t)
	rated, e := Rate(d, choices(), index(), grid(), 0, 6)
	want := []Candidate{}
	for _, c := range choices() {
		out, e1 := Change(d, c)
		x, e2 := Bounds(out, index(), grid(), 0, 6)
		if e1 == api.OK && e2 == api.OK {
			want = append(want, Candidate{out, x})
		}
	}
	if e != api.OK || !reflect.DeepEqual(rated, want) || len(want) < 3 {
		t.Fatalf("P39.1: %d rated, want %d: %v", len(rated), len(want), e)
	}
	last := []Candidate{}
	for depth := range 5 {
		l, e := Search(d, choices(), index(), grid(), depth, 6)
		if e != api.OK || len(l) == 0 {
			t.Fatalf("P39.3: %v", e)
		}
		// The search step by step.
		now := rated
		for k := 0; k <= depth && (k == 0 || len(now) > 1); k++ {
			next := []Candidate{}
			for _, c := range now {
				x, _ := Bounds(c.Design, index(), grid(), k, 6)
				next = append(next, Candidate{c.Design, x})
			}
			kept, _ := Keep(next)
			now = nil
			for _, i := range kept {
				now = append(now, next[i])
			}
		}
		if !reflect.DeepEqual(l, now) {
			t.Fatalf("P39.1: depth %d: %d left, want %d", depth, len(l), len(now))
		}
		for _, c := range l {
			k := slices.IndexFunc(last, func(o Candidate) bool { return format.Equal(o.Design, c.Design) })
			if depth > 0 && (k < 0 || !interval.Inside(c.Bounds, last[k].Bounds)) {
				t.Fatalf("P39.3: depth %d", depth)
			}
		}
		last = l
		b, e := Best(d, choices(), index(), grid(), depth, 6)
		switch {
		case len(l) == 1:
			if e != api.OK || !reflect.DeepEqual(b, l[0]) {
				t.Errorf("P39.1: Best: %v", e)
			}
		case e != api.ErrAmbiguous || b.Design.Name != "":
			t.Errorf("P39.1: Best: %v", e)
		}
	}
	if len(last) >= len(rated) {
		t.Error("P39.3: nothing was left out")
	}
	if b, e := Best(d, choices()[:1], index(), grid(), 1, 6); e != api.OK || b.Design.Name != "roof" {
		t.Errorf("P39.1: Best: %v", e)
	}
}

func TestOrder(t *testing.T) { // P39.4
	d := roof(t)
	back := choices()
	slices.Reverse(back)
	a, _ := Search(d, choices(), index(), grid(), 3, 6)
	b, _ := Search(d, back, index(), grid(), 3, 6)
	slices.Reverse(b)
	if !reflect.DeepEqual(a, b) {
		t.Errorf("P39.4: %d and %d", len(a), len(b))
	}
}

func TestErrors(t *testing.T) { // P39.1
	d := roof(t)
	bad := roof(t)
	bad.Name = ""
	for i, c := range []struct {
		d           api.Design
		l           []Choice
		index       api.Interval
		g           brightness.Grid
		depth, most int
		e           api.Errno
	}{
		{bad, make([]Choice, 31), iv(0, 0), brightness.Grid{}, 99, 99, api.ErrLimit}, {bad, nil, index(), grid(), 99, 99, api.ErrArg}, {d, nil, iv(one-1, one), grid(), 99, 99, api.ErrArg}, {d, nil, iv(one, 4*one+1), grid(), 0, 0, api.ErrArg}, {d, nil, iv(2*one, one), grid(), 0, 0, api.ErrArg}, {d, nil, index(), brightness.Grid{}, 99, 99, api.ErrArg}, {d, nil, index(), grid(), 13, 0, api.ErrRange}, {d, nil, index(), grid(), -1, 0, api.ErrRange}, {d, nil, index(), grid(), 0, 21, api.ErrRange}, {d, nil, index(), grid(), 0, -1, api.ErrRange}, {d, make([]Choice, 30), index(), grid(), 12, 20, api.OK}, {d, nil, iv(4*one, 4*one), grid(), 0, 0, api.OK}, {d, nil, iv(one, one), grid(), 0, 0, api.OK},
	} {
		r, e1 := Rate(c.d, c.l, c.index, c.g, c.depth, c.most)
		s, e2 := Search(c.d, c.l, c.index, c.g, c.depth, c.most)
		b, e3 := Best(c.d, c.l, c.index, c.g, c.depth, c.most)
		if e1 != c.e || e2 != c.e || len(r) != 0 || len(s) != 0 || b.Design.Name != "" || c.e != api.OK && e3 != c.e || c.e == api.OK && e3 != api.ErrNone {
			t.Errorf("P39.1: %d: %v %v %v", i, e1, e2, e3)
		}
	}
}
