package format

import (
	"slices"
	"strings"
	"testing"

	"culet/api"
	"culet/clone"
	"culet/field"
	"culet/syntax"
)

const all = `design all order 24 mirror
tier a angle -3/-4 at 0, -5, 23 depth -7
tier b angle 1/0 at 1 meet a:0 a:-1 z:99
tier c angle 999999/2 at 2 edge a:0 b:1 height "-1/2+r2"
tier d angle 0/1 at 0 through 1 "3/2r6" "1234567"
`

func num(s string) api.Num {
	x, _ := field.Parse(s)
	return x
}

func designs(t *testing.T) []api.Design {
	l := []api.Design{}
	for _, text := range []string{all, "design x order -999999\n", "design square order 4\ntier C1 angle 1/1 at 0 depth \"3/2\"\ntier T angle 0/1 at 0 meet C1:0 C1:6 C1:12\n"} {
		d, _, e := syntax.Parse(text)
		if e != api.OK {
			t.Fatal(e)
		}
		if s, e := Print(d); s != text || e != api.OK {
			t.Errorf("P15.3: %q %v", s, e)
		}
		l = append(l, d)
	}
	return l
}

// long returns a number whose text has more than 400 bytes, but short integers.
func huge() api.Num {
	x := num(strings.Repeat("9", 60))
	return field.Add(field.Mul(x, x), field.Root(2))
}

// changes returns designs that differ from one in a single place.
func changes(d api.Design) (l []api.Design) {
	change := func(f func(d *api.Design)) {
		c := clone.Design(d)
		f(&c)
		l = append(l, c)
	}
	change(func(d *api.Design) { d.Name += "x" })
	change(func(d *api.Design) { d.Order++ })
	change(func(d *api.Design) { d.Mirror = !d.Mirror })
	change(func(d *api.Design) { d.Tiers = d.Tiers[1:] })
	change(func(d *api.Design) { d.Tiers[0].Name = "q" })
	change(func(d *api.Design) { d.Tiers[0].H = 7 })
	change(func(d *api.Design) { d.Tiers[0].V = 7 })
	change(func(d *api.Design) { d.Tiers[0].Indices[1] = 7 })
	change(func(d *api.Design) { d.Tiers[0].Indices = d.Tiers[0].Indices[1:] })
	change(func(d *api.Design) { d.Tiers[0].Fix.Depth = num("r3") })
	change(func(d *api.Design) { d.Tiers[1].Fix.Refs[0].Tier = "y" })
	change(func(d *api.Design) { d.Tiers[1].Fix.Refs[2].Index = 0 })
	change(func(d *api.Design) { d.Tiers[3].Fix.Point.Y = num("1") })
	return l
}

func TestInverse(t *testing.T) { // P15.2, P15.3, P15.4
	for i, d := range designs(t) {
		for _, c := range append(changesOf(d), d) {
			text, e := Print(c)
			lines, e2 := Lines(c)
			back, _, e3 := syntax.Parse(text)
			if e != api.OK || e2 != api.OK || e3 != api.OK || !Can(c) || !Equal(back, c) {
				t.Fatalf("P15.2: %d: %v %v %v", i, e, e2, e3)
			}
			if again, _ := Print(back); again != text {
				t.Errorf("P15.3: %d", i)
			}
			if strings.Join(lines, "\n")+"\n" != text || len(lines) != len(c.Tiers)+1 {
				t.Errorf("P15.4: %d", i)
			}
		}
	}
}

func changesOf(d api.Design) []api.Design {
	if len(d.Tiers) < 4 {
		return nil
	}
	return changes(d)
}

func TestEqual(t *testing.T) { // P15.5
	l := append(designs(t), changes(designs(t)[0])...)
	for i, a := range l {
		for k, b := range l {
			p, _ := Print(a)
			q, _ := Print(b)
			if Equal(a, b) != (i == k) || (p == q) != (i == k) {
				t.Errorf("P15.5: %d %d", i, k)
			}
		}
	}
	a, b := api.Design{Tiers: []api.Tier{{}}}, api.Design{Tiers: []api.Tier{{Indices: []int{}, Fix: api.Fix{Refs: []api.Ref{}}}}}
	if !Equal(a, b) || !Equal(api.Design{}, api.Design{Tiers: []api.Tier{}}) || Equal(a, api.Design{}) {
		t.Error("P15.5: nil and empty")
	}
	b.Tiers[0].Fix.Kind = 1
	if Equal(a, b) {
		t.Error("P15.5: kind")
	}
}

func TestCan(t *testing.T) { // P15.1
	bad := []func(d *api.Design){
		func(d *api.Design) { d.Name = "tier" }, func(d *api.Design) { d.Name = "" }, func(d *api.Design) { d.Order = 1000000 }, func(d *api.Design) { d.Order = -1000000 },
		func(d *api.Design) { d.Tiers = slices.Repeat(d.Tiers[:1], 21) }, func(d *api.Design) { d.Tiers[1].Name = "1" }, func(d *api.Design) { d.Tiers[1].H = 1000000 }, func(d *api.Design) { d.Tiers[1].V = -1000000 },
		func(d *api.Design) { d.Tiers[1].Indices = nil }, func(d *api.Design) { d.Tiers[1].Indices = make([]int, 25) }, func(d *api.Design) { d.Tiers[1].Indices[0] = 1000000 },
	}
	for i, f := range bad {
		d := clone.Design(designs(t)[0])
		f(&d)
		_, e1 := Lines(d)
		_, e2 := Print(d)
		if Can(d) || e1 != api.ErrArg || e2 != api.ErrArg {
			t.Errorf("P15.1: %d: %v %v", i, e1, e2)
		}
	}
	d := clone.Design(designs(t)[0])
	d.Tiers = slices.Repeat(d.Tiers[:1], 20)
	d.Tiers[0].Indices = make([]int, 24)
	d.Tiers[1].Indices = []int{-999999, 999999}
	if !Can(d) {
		t.Error("P15.1: limits")
	}
}

func TestFixes(t *testing.T) { // P15.1
	r := []api.Ref{{Tier: "a", Index: 1}, {Tier: "b", Index: -2}, {Tier: "c", Index: 999999}}
	p := api.Vec{X: num("1"), Y: num("r2"), Z: num("-1/3")}
	for text, f := range map[string]api.Fix{
		`depth 5`: {Kind: api.FixDepth, Depth: num("5")}, `depth "1/2"`: {Kind: api.FixDepth, Depth: num("1/2")}, `meet a:1 b:-2 c:999999`: {Kind: api.FixMeet, Refs: r}, `edge a:1 b:-2 height "r6"`: {Kind: api.FixLevel, Refs: r[:2], Depth: num("r6")}, `through 1 "r2" "-1/3"`: {Kind: api.FixPoint, Point: p},
	} {
		if s, e := Fix(f); s != text || e != api.OK {
			t.Errorf("P15.1: %s: %s %v", text, s, e)
		}
		if g, _, _ := syntax.Fix(text); !equalFixes(f, g) {
			t.Errorf("P15.2: %s", text)
		}
		for k := range 8 {
			c := f
			c.Refs = slices.Clone(f.Refs)
			switch k {
			case 0:
				c.Kind = 0
			case 1:
				c.Kind = 5
			case 2:
				c.Refs = append(c.Refs, r[0])
			case 3:
				c.Depth = api.Num{}
				if f.Depth == c.Depth {
					c.Depth = num("1")
				}
			case 4:
				c.Point = api.Vec{}
				if f.Point == c.Point {
					c.Point = p
				}
			case 5:
				c.Point.Y = api.Num{}
				if f.Point == (api.Vec{}) {
					c.Point.Y = num("1")
				}
			case 6:
				c.Refs = append(c.Refs, api.Ref{Tier: "at", Index: 1})[min(1, len(c.Refs)):]
			case 7:
				c.Refs = append(c.Refs, api.Ref{Tier: "a", Index: 1000000})[min(1, len(c.Refs)):]
			}
			if s, e := Fix(c); s != "" || e != api.ErrArg {
				t.Errorf("P15.1: %s %d: %s %v", text, k, s, e)
			}
			d := api.Design{Name: "x", Tiers: []api.Tier{{Name: "t", Indices: []int{0}, Fix: c}}}
			if Can(d) {
				t.Errorf("P15.1: %s %d", text, k)
			}
		}
	}
	if s, e := Fix(api.Fix{Kind: api.FixLevel, Refs: r[:2], Depth: huge()}); s != "" || e != api.ErrLimit {
		t.Errorf("P15.1: %v", e)
	}
}

func TestValues(t *testing.T) { // P15.1
	for text, want := range map[string]string{"0": "0", "-5": "-5", "999999": "999999", "1000000": `"1000000"`, "1/2": `"1/2"`, "r2": `"r2"`, "-1000000": `"-1000000"`, strings.Repeat("9", 60): `"` + strings.Repeat("9", 60) + `"`} {
		if s, e := Value(num(text)); s != want || e != api.OK {
			t.Errorf("P15.1: %s: %s %v", text, s, e)
		}
	}
	if s, e := Value(api.Num{}); s != "" || e != api.ErrArg {
		t.Errorf("P15.1: %v", e)
	}
	if s, e := Value(huge()); s != "" || e != api.ErrLimit {
		t.Errorf("P15.1: %v", e)
	}
	// Four fractions of 59 digits each are longer than 400 bytes.
	long, _ := field.Div(field.Add(num(strings.Repeat("7", 59)), field.Mul(num(strings.Repeat("1", 59)), field.Add(field.Root(2), field.Add(field.Root(3), field.Root(6))))), num("1"+strings.Repeat("0", 58)+"3"))
	if s, e := Value(long); len(field.Print(long)) <= 400 || s != "" || e != api.ErrLimit {
		t.Errorf("P15.1: %d bytes: %v", len(field.Print(long)), e)
	}
}

func TestLimits(t *testing.T) { // P15.1
	d := clone.Design(designs(t)[0])
	d.Tiers[0].Fix.Depth = huge()
	_, e1 := Lines(d)
	_, e2 := Print(d)
	if e1 != api.ErrLimit || e2 != api.ErrLimit || !Can(d) {
		t.Errorf("P15.1: %v %v", e1, e2)
	}
	x := num(strings.Repeat("7", 59) + "/1" + strings.Repeat("0", 58) + "+" + strings.Repeat("7", 59) + "r2-" + strings.Repeat("1", 59) + "r3")
	wide := api.Tier{Name: strings.Repeat("n", 30), H: 999999, V: -999999, Indices: slices.Repeat([]int{-999999}, 24), Fix: api.Fix{Kind: api.FixPoint, Point: api.Vec{X: x, Y: x, Z: x}}}
	d = api.Design{Name: "x", Order: 1, Tiers: slices.Repeat([]api.Tier{wide}, 20)}
	l, e := Lines(d)
	s, e2 := Print(d)
	if total := len(strings.Join(l, "\n")) + 1; e != api.OK || (total > api.MaxText) != (e2 == api.ErrLimit) || total > api.MaxText && s != "" {
		t.Errorf("P15.1: %d bytes: %v %v", total, e, e2)
	}
}
