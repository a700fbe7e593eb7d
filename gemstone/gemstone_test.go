package gemstone

import (
	"math/big"
	"slices"
	"strconv"
	"strings"
	"testing"

	"culet/api"
	"culet/bigint"
	"culet/field"
	"culet/interval"
	"culet/refraction"
)

func num(s string) api.Num {
	x, _ := field.Parse(s)
	return x
}

func table() []api.Material {
	return []api.Material{{Name: "Zircon", Density: 4690, Index: 1950, Hardness: 75}, {Name: "air-like", Density: 1, Index: 1000, Hardness: 1}, {Name: "diamond", Density: 3520, Index: 2417, Hardness: 100}, {Name: "heavy", Density: 30000, Index: 4000, Hardness: 50}, {Name: "quartz", Density: 2650, Index: 1544, Hardness: 70}, {Name: "ruby", Density: 4000, Index: 1768, Hardness: 90}}
}

func bads() []api.Material {
	return []api.Material{{}, {Name: "order", Density: 1, Index: 1000, Hardness: 1}, {Name: "1a", Density: 1, Index: 1000, Hardness: 1}, {Name: strings.Repeat("a", 31), Density: 1, Index: 1000, Hardness: 1}, {Name: "a", Density: 0, Index: 1000, Hardness: 1}, {Name: "a", Density: 30001, Index: 1000, Hardness: 1}, {Name: "a", Density: 1, Index: 999, Hardness: 1}, {Name: "a", Density: 1, Index: 4001, Hardness: 1}, {Name: "a", Density: 1, Index: 1000, Hardness: 0}, {Name: "a", Density: 1, Index: 1000, Hardness: 101}}
}

func TestTable(t *testing.T) { // P40.1, P40.2
	l := table()
	if !Valid(l) || !Valid(nil) {
		t.Fatal("P40.2: valid")
	}
	for _, m := range []api.Material{{Name: "quartz", Density: 2651, Index: 1545, Hardness: 71}, {Name: "amber", Density: 1080, Index: 1540, Hardness: 25}, {Name: "z", Density: 1, Index: 1000, Hardness: 1}, {Name: "A", Density: 1, Index: 1000, Hardness: 1}} {
		out, e := Put(l, m)
		got, found := Find(out, m.Name)
		if e != api.OK || !Valid(out) || got != m || !found {
			t.Fatalf("P40.2: %v: %v", m, e)
		}
		for _, o := range l {
			if got, found := Find(out, o.Name); o.Name != m.Name && (got != o || !found) {
				t.Errorf("P40.2: %v after %v", o, m)
			}
		}
		for _, n := range []api.Material{{Name: "beryl", Density: 2700, Index: 1580, Hardness: 75}, {Name: "zz", Density: 9, Index: 1000, Hardness: 9}} {
			a, _ := Put(out, n)
			b, _ := Put(l, n)
			b, _ = Put(b, m)
			if !slices.Equal(a, b) {
				t.Errorf("P40.2: order of %v and %v", m, n)
			}
		}
	}
	if !slices.Equal(l, table()) {
		t.Error("P40.1: argument changed")
	}
	if m, found := Find([]api.Material{{Name: "b", Density: 1}, {Name: "a"}, {Name: "b", Density: 2}}, "b"); m.Density != 1 || !found {
		t.Error("P40.1: Find in any list")
	}
	if m, found := Find(l, "opal"); m != (api.Material{}) || found {
		t.Error("P40.1: Find")
	}
	for i, bad := range bads() {
		_, e1 := Put(l, bad)
		_, e2 := Put([]api.Material{bad}, l[0])
		_, e3 := Index(bad)
		_, e4 := Critical(bad)
		_, e5 := Milligrams(bad, num("-1"))
		_, e6 := Print([]api.Material{bad})
		_, e7 := Identify([]api.Material{bad}, Range{1, 0}, Range{})
		for k, e := range []api.Errno{e1, e2, e3, e4, e5, e6, e7} {
			if e != api.ErrArg {
				t.Errorf("P40.1: %d %d: %v", i, k, e)
			}
		}
		if Valid([]api.Material{bad}) {
			t.Errorf("P40.1: %d", i)
		}
	}
	full := []api.Material{}
	for i := range 100 {
		full, _ = Put(full, api.Material{Name: "m" + strconv.Itoa(i), Density: 1, Index: 1000, Hardness: 1})
	}
	if _, e := Put(full, l[0]); e != api.ErrLimit || len(full) != 100 {
		t.Errorf("P40.1: %v", e)
	}
	if out, e := Put(full, api.Material{Name: "m7", Density: 2, Index: 1000, Hardness: 1}); e != api.OK || len(out) != 100 {
		t.Errorf("P40.1: %v", e)
	}
	if Valid(append(full, api.Material{Name: "z", Density: 1, Index: 1000, Hardness: 1})) || Valid([]api.Material{l[1], l[0]}) || Valid([]api.Material{l[0], l[0]}) {
		t.Error("P40.1: order and limit")
	}
}

func TestIdentify(t *testing.T) { // P40.3
	l := table()
	ranges := []Range{{2650, 2650}, {1, 30000}, {2651, 4000}, {0, 0}, {-9, 99999}}
	for _, d := range ranges {
		for _, n := range []Range{{1544, 1544}, {1000, 4000}, {1545, 2000}, {5, 9}} {
			names, e := Identify(l, d, n)
			for _, m := range l {
				in := m.Density >= d.Lo && m.Density <= d.Hi && m.Index >= n.Lo && m.Index <= n.Hi
				if e != api.OK || in != slices.Contains(names, m.Name) {
					t.Errorf("P40.3: %v %v: %v %v", d, n, names, e)
				}
			}
			wide, _ := Identify(l, Range{d.Lo - 100, d.Hi + 100}, Range{n.Lo - 1, n.Hi + 1})
			for _, s := range names {
				if !slices.Contains(wide, s) {
					t.Errorf("P40.3: %s", s)
				}
			}
			if !slices.IsSorted(names) {
				t.Errorf("P40.3: %v", names)
			}
		}
	}
	for _, c := range [][2]Range{{{2, 1}, {1, 1}}, {{1, 1}, {2, 1}}} {
		if names, e := Identify(l, c[0], c[1]); names != nil || e != api.ErrRange {
			t.Errorf("P40.1: %v", e)
		}
	}
}

func TestIndices(t *testing.T) { // P40.1
	for _, m := range table() {
		x, e := Index(m)
		want, _ := interval.Ratio(m.Index, 1000)
		c, e2 := Critical(m)
		critical, _ := refraction.Critical(want)
		if x != want || c != critical || e != api.OK || e2 != api.OK {
			t.Errorf("P40.1: %s: %v %v", m.Name, e, e2)
		}
	}
}

func TestWeights(t *testing.T) { // P40.4
	q := table()[4]
	if w, e := Milligrams(q, num("10")); w != bigint.Of(26) || e != api.OK {
		t.Errorf("P40.4: %v", e)
	}
	volumes := []string{"0", "1/2650", "1/3", "r2", "7-r6", "100", "123456789012345678901234567890"}
	for _, a := range volumes {
		for _, b := range volumes {
			x, _ := Milligrams(q, num(a))
			y, _ := Milligrams(q, num(b))
			z, _ := Milligrams(q, field.Add(num(a), num(b)))
			rest := bigint.Sub(z, bigint.Add(x, y))
			if rest != bigint.Of(0) && rest != bigint.Of(1) {
				t.Errorf("P40.4: %s and %s", a, b)
			}
		}
		light, _ := Milligrams(q, num(a))
		heavy, _ := Milligrams(table()[3], num(a))
		if bigint.Cmp(light, heavy) > 0 {
			t.Errorf("P40.4: %s", a)
		}
	}
	if w, e := Milligrams(q, num("1-r2")); w != bigint.Of(0) || e != api.ErrRange {
		t.Errorf("P40.1: %v", e)
	}
	if _, e := Milligrams(q, api.Num{}); e != api.ErrArg {
		t.Errorf("P40.1: %v", e)
	}
}

func TestDensity(t *testing.T) { // P40.5
	if r, e := Density(265, 165); r != (Range{2650, 2650}) || e != api.OK {
		t.Errorf("P40.5: %v", r)
	}
	for _, c := range [][2]int{{2, 1}, {265, 166}, {1000, 1}, {1000000000000, 999999999999}, {1000000000000, 1}, {7, 4}} {
		r, e := Density(c[0], c[1])
		want := big.NewRat(int64(c[0])*1000, int64(c[0]-c[1]))
		lo, hi := big.NewRat(int64(r.Lo), 1), big.NewRat(int64(r.Hi), 1)
		if e != api.OK || lo.Cmp(want) > 0 || hi.Cmp(want) < 0 || r.Hi-r.Lo > 1 || want.IsInt() != (r.Lo == r.Hi) {
			t.Errorf("P40.5: %v: %v", c, r)
		}
		if c[0] < 1000000 {
			if s, _ := Density(17*c[0], 17*c[1]); s != r {
				t.Errorf("P40.5: %v", c)
			}
		}
	}
	for _, c := range [][2]int{{0, 0}, {1, 1}, {1, 2}, {5, 0}, {5, -1}, {1000000000001, 5}, {-1, -2}, {5, 5}} {
		if r, e := Density(c[0], c[1]); r != (Range{}) || e != api.ErrRange {
			t.Errorf("P40.1: %v: %v", c, e)
		}
	}
}

func TestTexts(t *testing.T) { // P40.6
	lines, e := Print(table())
	l, at, e2 := Parse(lines)
	if e != api.OK || e2 != api.OK || at != 0 || !slices.Equal(l, table()) || lines[4] != "quartz 2650 1544 70" {
		t.Errorf("P40.6: %v %v %v", lines, e, e2)
	}
	many := []string{}
	for i := range 100 {
		many = append(many, "m"+strconv.Itoa(100+i)+" 1 1000 1")
	}
	if l, _, e := Parse(many); len(l) != 100 || e != api.OK {
		t.Errorf("P40.6: 100 lines: %v", e)
	}
	if l, at, e := Parse(nil); len(l) != 0 || at != 0 || e != api.OK {
		t.Errorf("P40.6: %v", e)
	}
	for _, bad := range []string{"", "quartz", "quartz 2650 1544", "quartz 2650 1544 70 1", "quartz  2650 1544 70", " quartz 2650 1544 70", "quartz 2650 1544 70 ", "quartz 02650 1544 70", "quartz +2650 1544 70", "quartz 2650 1544 7x", "quartz 0 1544 70", "quartz 2650 999 70", "quartz 2650 1544 101", "tier 2650 1544 70", "quartz 2650 1544 -7", "quartz 99999999999999999999 1544 70"} {
		if l, at, e := Parse([]string{"a 1 1000 1", bad, "a 1 1000 1"}); l != nil || at != 1 || e != api.ErrSyntax {
			t.Errorf("P40.1: %q: %d %v", bad, at, e)
		}
	}
	for i, c := range []struct {
		lines []string
		at    int
		e     api.Errno
	}{
		{[]string{"b 1 1000 1", "a 1 1000 1", "?"}, 1, api.ErrOrder}, {[]string{"b 1 1000 1", "b 1 1000 1"}, 1, api.ErrOrder}, {[]string{"?", "b 1 1000 1", "a 1 1000 1"}, 0, api.ErrSyntax}, {[]string{"b 1 1000 1", "a 0 1000 1"}, 1, api.ErrSyntax}, {slices.Repeat([]string{"?"}, 101), 0, api.ErrLimit},
	} {
		if l, at, e := Parse(c.lines); l != nil || at != c.at || e != c.e {
			t.Errorf("P40.1: %d: %d %v", i, at, e)
		}
	}
}
