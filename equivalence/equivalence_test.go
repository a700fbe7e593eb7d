package equivalence

import (
	"slices"
	"testing"

	"culet/api"
	"culet/clone"
	"culet/field"
	"culet/resolve"
	"culet/symmetry"
	"culet/syntax"
	"culet/wheel"
)

func num(s string) api.Num {
	x, _ := field.Parse(s)
	return x
}

func parse(t *testing.T, text string) api.Design {
	t.Helper()
	d, at, e := syntax.Parse(text)
	if e != api.OK {
		t.Fatal(text, at, e)
	}
	return d
}

func girdle(depth string, indices ...int) (l []api.Facet) {
	for _, i := range indices {
		l = append(l, api.Facet{Tier: "g", At: api.Setting{H: 1, Index: i}, Depth: num(depth)})
	}
	return l
}

func texts() []string {
	return []string{
		"design pyramid order 4 tier B angle 0/-1 at 0 depth 0 tier C angle 1/1 at 0 depth 1",
		"design prism order 3 mirror tier b angle 0/-1 at 0 depth 1 tier t angle 0/1 at 0 depth \"1/3\" tier g angle 1/0 at 0 depth \"r2\" tier c angle 2/1 at 1 depth 3",
		"design skew order 2 tier b angle 0/-1 at 0 depth 1 tier t angle 0/1 at 0 depth 1 tier g angle 1/0 at 0, 5 depth 1 tier c angle 1/1 at 2 depth \"3/2\"",
		"design single order 1 tier b angle 1/-3 at 0, 7, 16 depth 1 tier c angle 1/1 at 3, 11, 20 depth 1",
	}
}

func lists(t *testing.T) [][]api.Facet {
	l := [][]api.Facet{nil, girdle("0", 3, 4), girdle("5", 0, 6, 12, 18), girdle("1", 3, 9, 15, 21), append(girdle("1", 0), girdle("-2", 0)...), girdle("1", 1, 2, 7)}
	for _, text := range texts() {
		f, _, e := resolve.Facets(parse(t, text))
		if e != api.OK {
			t.Fatal(e)
		}
		l = append(l, f)
	}
	return l
}

// changed returns a list that is moved, turned around, renamed, and scaled.
func changed(t *testing.T, l []api.Facet, m api.Motion, k string) []api.Facet {
	t.Helper()
	out, e := Move(l, m)
	if e != api.OK {
		t.Fatal(e)
	}
	slices.Reverse(out)
	for i := range out {
		out[i].Tier = "other"
		out[i].Depth = field.Mul(out[i].Depth, num(k))
	}
	return out
}

func TestEquivalence(t *testing.T) { // P23.2, P23.3
	l := lists(t)
	for i, a := range l {
		for m := range motions() {
			b := changed(t, a, m, "2/3r3")
			if !Equivalent(a, b) || !Equivalent(b, a) {
				t.Fatalf("P23.2: %d %v", i, m)
			}
			if ms, e := Motions(a, b); !slices.Contains(ms, m) || e != api.OK {
				t.Fatalf("P23.3: %d %v: %v", i, m, ms)
			}
		}
		for k, b := range l {
			ms, _ := Motions(a, b)
			same := Equivalent(a, b)
			if same != (len(ms) > 0) || same != Equivalent(b, a) || same != (i == k || i+k == 5 && min(i, k) == 2) {
				t.Errorf("P23.3: %d %d: %v", i, k, same)
			}
		}
	}
	if Equivalent(girdle("1", 0), girdle("-1", 0)) || Equivalent(girdle("1", 0, 6), girdle("1", 0, 7)) || Equivalent(append(girdle("1", 0), girdle("2", 1)...), append(girdle("1", 0), girdle("3", 1)...)) {
		t.Error("P23.2: others")
	}
	if ms, _ := Motions(l[2], l[2]); len(ms) != 8 {
		t.Errorf("P23.4: example: %v", ms)
	}
}

func TestGroup(t *testing.T) { // P23.4
	for i, l := range lists(t) {
		ms, _ := Motions(l, l)
		if !slices.Contains(ms, api.Motion{}) || 48%len(ms) != 0 {
			t.Errorf("P23.4: %d: %v", i, ms)
		}
		for k, a := range ms {
			if k > 0 && (ms[k-1].Flip && !a.Flip || ms[k-1].Flip == a.Flip && ms[k-1].Turn >= a.Turn) || !slices.Contains(ms, wheel.Inverse(a)) {
				t.Errorf("P23.4: %d: %v", i, ms)
			}
			for _, b := range ms {
				if !slices.Contains(ms, wheel.Compose(a, b)) {
					t.Errorf("P23.4: %d: %v %v", i, a, b)
				}
			}
		}
	}
}

func TestSymmetry(t *testing.T) { // P23.5
	for _, text := range texts() {
		d := parse(t, text)
		f, _, _ := resolve.Facets(d)
		own, _ := Motions(f, f)
		ms, _ := wheel.Motions(d.Order, d.Mirror)
		for _, m := range ms {
			if !slices.Contains(own, m) {
				t.Errorf("P23.5: %s: %v", d.Name, m)
			}
		}
	}
}

func TestCanonical(t *testing.T) { // P23.1, P23.6
	for i, l := range lists(t) {
		c, e := Canonical(l)
		again, _ := Canonical(c)
		found := false
		for m := range motions() {
			f, e := Form(l, m)
			if e != api.OK || !slices.IsSortedFunc(f, Compare) || slices.CompareFunc(c, f, Compare) > 0 {
				t.Errorf("P23.6: %d %v", i, m)
			}
			found = found || slices.Equal(f, c)
		}
		size, _ := Size(c)
		if e != api.OK || !slices.Equal(again, c) || !found || size != num("1") {
			t.Errorf("P23.6: %d", i)
		}
		for _, f := range c {
			if f.Tier != "" {
				t.Errorf("P23.6: %d: names", i)
			}
		}
	}
	for i, text := range texts() {
		c, at, e := Design(parse(t, text))
		want, _ := Canonical(lists(t)[6+i])
		if at != 0 || e != api.OK || !slices.Equal(c, want) {
			t.Errorf("P23.1: Design: %v", e)
		}
	}
}

func TestSizes(t *testing.T) { // P23.1
	for _, c := range []struct {
		l    []api.Facet
		want string
	}{{nil, "1"}, {girdle("0", 1, 2), "1"}, {girdle("-2", 1, 2), "4"}, {append(girdle("1-r2", 0), girdle("1", 1)...), "r2"}} {
		if s, e := Size(c.l); s != num(c.want) || e != api.OK {
			t.Errorf("P23.1: %s: %v", field.Print(s), e)
		}
	}
}

func TestCompare(t *testing.T) { // P23.1
	f := func(v, h, i int, d string) api.Facet {
		return api.Facet{Tier: d, At: api.Setting{H: h, V: v, Index: i}, Depth: num(d)}
	}
	l := []api.Facet{f(-1, 9, 9, "9"), f(0, 1, 9, "9"), f(0, 2, 3, "9"), f(0, 2, 4, "-1"), f(0, 2, 4, "r2"), f(0, 2, 4, "3/2"), f(1, 0, 0, "0")}
	for i, a := range l {
		for k, b := range l {
			want := 0
			if i < k {
				want = -1
			} else if i > k {
				want = 1
			}
			if Compare(a, b) != want {
				t.Errorf("P23.1: %d %d", i, k)
			}
		}
	}
	if Compare(api.Facet{}, f(0, 0, 0, "5")) != 0 {
		t.Error("P23.1: invalid depth")
	}
}

func TestSolids(t *testing.T) { // P23.7, W4
	for _, text := range texts() {
		d := parse(t, text)
		other := clone.Design(d)
		slices.Reverse(other.Tiers)
		for i := range other.Tiers {
			x := &other.Tiers[i]
			x.Fix.Depth = field.Mul(x.Fix.Depth, num("3"))
			for k := range x.Indices {
				if x.H > 0 {
					x.Indices[k] = (x.Indices[k] + 5) % 24
				}
			}
		}
		other.Mirror = false
		if d.Mirror {
			continue
		}
		a, _, e1 := resolve.Resolve(d)
		b, _, e2 := resolve.Resolve(other)
		if e1 != api.OK || e2 != api.OK || !Equivalent(a.Facets, b.Facets) {
			t.Fatalf("W4: %s: %v %v", d.Name, e1, e2)
		}
		if x, e := symmetry.Similar(a.Solid, b.Solid); e != api.OK || x.Scale != num("3") {
			t.Errorf("P23.7: %s: %v", d.Name, e)
		}
	}
}

func TestErrors(t *testing.T) { // P23.1
	good := girdle("1", 0, 1)
	many := make([]api.Facet, 0)
	for range 95 {
		many = append(many, good[0])
	}
	if !Valid(many[:94]) {
		t.Error("P23.1: 94 facets")
	}
	bads := [][]api.Facet{many, {{At: api.Setting{H: 1}}}, {{At: api.Setting{H: 2, V: 2}, Depth: num("1")}}, append(girdle("1", 0), girdle("1", 24)...)}
	for i, bad := range bads {
		a, e1 := Move(bad, api.Motion{})
		_, e2 := Size(bad)
		b, e3 := Form(bad, api.Motion{})
		c, e4 := Canonical(bad)
		_, e5 := Motions(bad, good)
		_, e6 := Motions(good, bad)
		for k, e := range []api.Errno{e1, e2, e3, e4, e5, e6} {
			if e != api.ErrArg {
				t.Errorf("P23.1: %d %d: %v", i, k, e)
			}
		}
		if Valid(bad) || Equivalent(bad, bad) || Equivalent(good, bad) || Equivalent(bad, good) || a != nil || b != nil || c != nil {
			t.Errorf("P23.1: %d", i)
		}
	}
	_, e1 := Move(good, api.Motion{Turn: 24})
	_, e2 := Form(good, api.Motion{Turn: -1})
	if e1 != api.ErrArg || e2 != api.ErrArg {
		t.Errorf("P23.1: motion: %v %v", e1, e2)
	}
	if l, at, e := Design(parse(t, "design x order 5")); l != nil || at != -1 || e != api.ErrRange {
		t.Errorf("P23.1: Design: %d %v", at, e)
	}
	table := []api.Facet{{Tier: "t", At: api.Setting{V: 1}, Depth: num("2")}}
	if l, _ := Move(table, api.Motion{Turn: 7}); !slices.Equal(l, table) {
		t.Error("P23.1: H 0")
	}
}
