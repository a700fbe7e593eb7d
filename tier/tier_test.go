package tier

import (
	"math"
	"reflect"
	"slices"
	"strings"
	"testing"

	"culet/api"
	"culet/clone"
	"culet/field"
	"culet/syntax"
)

func parse(t *testing.T, text string) api.Design {
	t.Helper()
	d, at, e := syntax.Parse(text)
	if e != api.OK {
		t.Fatal(text, at, e)
	}
	return d
}

const stone = `design stone order 4 mirror
tier p angle 1/-1 at 0 depth 1
tier q angle 1/-1 at 1, 3 depth 1
tier g angle 1/0 at 2 depth 1
tier c angle 2/1 at 2 meet g:2 p:0 q:3
tier t angle 0/1 at 0 edge c:2 c:10 height 1
tier u angle 0/-1 at 0 through 1 2 3`

func TestOrbits(t *testing.T) { // P16.2, P16.5
	if o := Orbit(4, true, 1); !slices.Equal(o, []int{1, 5, 7, 11, 13, 17, 19, 23}) {
		t.Errorf("P16.2: %v", o)
	}
	if o := Orbit(4, true, 3); !slices.Equal(o, []int{3, 9, 15, 21}) {
		t.Errorf("P16.2: %v", o)
	}
	for order := -3; order < 30; order++ {
		for _, mirror := range []bool{false, true} {
			right := order > 0 && 24%order == 0
			for _, i := range []int{0, 1, 5, 12, 23, 24, -1, math.MaxInt, math.MinInt} {
				o := Orbit(order, mirror, i)
				if !right {
					if o != nil || Positions(order, mirror, api.Tier{H: 0}) != nil {
						t.Errorf("P16.1: order %d", order)
					}
					continue
				}
				place := (i%24 + 24) % 24
				if !slices.Contains(o, place) || !slices.IsSorted(o) || len(o) != order && !(mirror && len(o) == 2*order) {
					t.Errorf("P16.2: %d %v %d: %v", order, mirror, i, o)
				}
				for _, k := range o {
					if !slices.Contains(o, (k+24/order)%24) || mirror && !slices.Contains(o, (24-k)%24) {
						t.Errorf("P16.2: %d %v %d: %v", order, mirror, i, o)
					}
				}
				a, b := api.Tier{H: 3, Indices: []int{i, 7}}, api.Tier{H: 3, Indices: []int{place + 24/order, 7 + 24/order - 48}}
				p := Positions(order, mirror, a)
				if !slices.Equal(p, Positions(order, mirror, b)) || !slices.Contains(p, place) || !slices.Contains(p, 7) {
					t.Errorf("P16.5: %d %v %d", order, mirror, i)
				}
			}
			if !right {
				continue
			}
			if p := Positions(order, mirror, api.Tier{H: 0, Indices: []int{5, 9}}); !slices.Equal(p, []int{0}) {
				t.Errorf("P16.2: H 0: %v", p)
			}
			if p := Positions(order, mirror, api.Tier{H: 1}); len(p) != 0 {
				t.Errorf("P16.2: no indices: %v", p)
			}
		}
	}
}

func TestFacets(t *testing.T) { // P16.3, P16.4
	d := parse(t, stone)
	l, e := Facets(d)
	if at, e2 := Check(d); at != 0 || e != api.OK || e2 != api.OK || len(l) != 4+12+8+8+2 {
		t.Fatalf("P16.3: %v %d facets", e, len(l))
	}
	for i, f := range l {
		if k, ok := Find(l, api.Ref{Tier: f.Tier, Index: f.At.Index}); k != i || !ok || f.Depth != (api.Num{}) {
			t.Errorf("P16.3: %d", i)
		}
		for _, g := range l[:i] {
			if g.At == f.At {
				t.Errorf("P16.3: %d: same setting", i)
			}
		}
	}
	for n := range len(d.Tiers) + 1 {
		p, e := Prefix(d, n)
		pl, e2 := Facets(p)
		if e != api.OK || e2 != api.OK || len(p.Tiers) != n || !slices.Equal(pl, l[:len(pl)]) {
			t.Errorf("P16.4: %d: %v %v", n, e, e2)
		}
	}
	for _, n := range []int{-1, len(d.Tiers) + 1} {
		if p, e := Prefix(d, n); e != api.ErrRange || !reflect.DeepEqual(p, api.Design{}) {
			t.Errorf("P16.1: Prefix %d: %v", n, e)
		}
	}
	p, _ := Prefix(d, 2)
	p.Tiers[1].Indices[0] = 9
	if d.Tiers[1].Indices[0] != 1 {
		t.Error("P16.1: Prefix shares memory")
	}
	if k, ok := Find(l, api.Ref{Tier: "p", Index: 24}); k != 0 || ok {
		t.Error("P16.1: Find")
	}
	if k, ok := Find(nil, api.Ref{}); k != 0 || ok {
		t.Error("P16.1: Find")
	}
	if k, ok := Find([]api.Facet{{}, {Tier: "a"}, {Tier: "a"}}, api.Ref{Tier: "a"}); k != 1 || !ok {
		t.Error("P16.1: Find the first one")
	}
}

func TestFaults(t *testing.T) { // P16.1
	for i, c := range []struct {
		change func(d *api.Design)
		at     int
		e      api.Errno
	}{
		{func(d *api.Design) { d.Name = "tier"; d.Order = 5 }, -1, api.ErrArg},
		{func(d *api.Design) { d.Order = 5; d.Tiers = make([]api.Tier, 21) }, -1, api.ErrRange},
		{func(d *api.Design) { d.Order = 0 }, -1, api.ErrRange},
		{func(d *api.Design) { d.Order = -4 }, -1, api.ErrRange},
		{func(d *api.Design) { d.Order = 48 }, -1, api.ErrRange},
		{func(d *api.Design) { d.Tiers = make([]api.Tier, 21) }, -1, api.ErrLimit},
		{func(d *api.Design) { d.Tiers[1].Name = "at" }, 1, api.ErrArg},
		{func(d *api.Design) { d.Tiers[1].Fix.Kind = 0; d.Tiers[1].Name = "p" }, 1, api.ErrArg},
		{func(d *api.Design) { d.Tiers[3].Fix.Refs = nil }, 3, api.ErrArg},
		{func(d *api.Design) { d.Tiers[2].Name = "p"; d.Tiers[2].H = 0 }, 2, api.ErrExist},
		{func(d *api.Design) { d.Tiers[2].H = 2 }, 2, api.ErrAngle},
		{func(d *api.Design) { d.Tiers[2].H = 0 }, 2, api.ErrAngle},
		{func(d *api.Design) { d.Tiers[2].H = -1; d.Tiers[2].Indices = nil }, 2, api.ErrAngle},
		{func(d *api.Design) { d.Tiers[2].H = 1001 }, 2, api.ErrAngle},
		{func(d *api.Design) { d.Tiers[3].H = 1001 }, 3, api.ErrAngle},
		{func(d *api.Design) { d.Tiers[3].H = -1 }, 3, api.ErrAngle},
		{func(d *api.Design) { d.Tiers[3].V = 1001 }, 3, api.ErrAngle},
		{func(d *api.Design) { d.Tiers[3].V = -1001 }, 3, api.ErrAngle},
		{func(d *api.Design) { d.Tiers[3].H, d.Tiers[3].V = 999, 1000; d.Tiers[3].Fix.Refs[0].Tier = "x" }, 3, api.ErrName},
		{func(d *api.Design) { d.Tiers[3].H, d.Tiers[3].V = 1000, -999; d.Tiers[3].Fix.Refs[0].Tier = "x" }, 3, api.ErrName},
		{func(d *api.Design) { d.Tiers[2].V = 1001 }, 2, api.ErrAngle},
		{func(d *api.Design) { d.Tiers[2].V = math.MinInt }, 2, api.ErrAngle},
		{func(d *api.Design) { d.Tiers[4].V = 2 }, 4, api.ErrAngle},
		{func(d *api.Design) { d.Tiers[2].Indices = nil }, 2, api.ErrRange},
		{func(d *api.Design) { d.Tiers[2].Indices = make([]int, 25) }, 2, api.ErrRange},
		{func(d *api.Design) { d.Tiers[2].Indices[0] = 24 }, 2, api.ErrRange},
		{func(d *api.Design) { d.Tiers[2].Indices = []int{0, -1, 0} }, 2, api.ErrRange},
		{func(d *api.Design) { d.Tiers[4].Indices[0] = 6 }, 4, api.ErrRange},
		{func(d *api.Design) { d.Tiers[4].Indices = []int{0, 0} }, 4, api.ErrExist},
		{func(d *api.Design) { d.Tiers[1].Indices = []int{1, 5} }, 1, api.ErrExist},
		{func(d *api.Design) { d.Tiers[1].Indices = []int{1, 12} }, 1, api.ErrExist},
		{func(d *api.Design) { d.Tiers[5].V = 1 }, 5, api.ErrExist},
		{func(d *api.Design) { d.Tiers[3].Fix.Refs[2].Tier = "c" }, 3, api.ErrName},
		{func(d *api.Design) { d.Tiers[3].Fix.Refs[2].Index = 2 }, 3, api.ErrName},
		{func(d *api.Design) { d.Tiers[3].Fix.Refs[2].Index = 27 }, 3, api.ErrName},
		{func(d *api.Design) { d.Tiers[4].Fix.Refs[0] = api.Ref{Tier: "u", Index: 0} }, 4, api.ErrName},
	} {
		d := clone.Design(parse(t, stone))
		c.change(&d)
		at, e := Check(d)
		l, e2 := Facets(d)
		if at != c.at || e != c.e || e2 != c.e || l != nil {
			t.Errorf("P16.1: %d: %d %v", i, at, e)
		}
	}
}

func TestLimit(t *testing.T) { // P16.3
	var b strings.Builder
	b.WriteString("design x order 24")
	for i, n := range []string{"a", "b", "c"} {
		b.WriteString(" tier " + n + " angle 1/" + string(rune('1'+i)) + " at 0 depth 1")
	}
	d := parse(t, b.String()+" tier u angle 0/1 at 0 depth 1")
	if l, e := Facets(d); len(l) != 73 || e != api.OK {
		t.Errorf("P16.3: %d %v", len(l), e)
	}
	d.Order = 12
	d.Tiers[0].Indices = []int{0, 1}
	d.Tiers[1].Indices = []int{0, 1}
	d.Tiers[2].Indices = []int{1}
	d.Tiers = append(d.Tiers, parse(t, "design y order 1 tier e angle 2/1 at 0, 1 depth 1").Tiers[0])
	if l, e := Facets(d); len(l) != 85 || e != api.OK {
		t.Errorf("P16.3: %d %v", len(l), e)
	}
	d.Tiers[4].Fix = api.Fix{Kind: api.FixMeet, Refs: []api.Ref{{Tier: "x"}, {Tier: "x"}, {Tier: "x"}}}
	d.Tiers[2].Indices = []int{0, 1}
	if at, e := Check(d); at != 4 || e != api.ErrLimit {
		t.Errorf("P16.1: %d %v", at, e)
	}
	d = api.Design{Name: "x", Order: 1}
	for i := range 4 {
		x := api.Tier{Name: string(rune('a' + i)), H: 1, V: i, Fix: parse(t, "design y order 1 tier e angle 2/1 at 0 depth 1").Tiers[0].Fix}
		for k := range 24 - i/3*2 {
			x.Indices = append(x.Indices, k)
		}
		d.Tiers = append(d.Tiers, x)
	}
	if l, e := Facets(d); len(l) != 94 || e != api.OK {
		t.Errorf("P16.3: %d facets: %v", len(l), e)
	}
	d.Tiers[3].Indices = append(d.Tiers[3].Indices, 22)
	if at, e := Check(d); at != 3 || e != api.ErrLimit {
		t.Errorf("P16.3: 95 facets: %d %v", at, e)
	}
	// A number that is too long for a text is no fault.
	d = parse(t, stone)
	x, _ := field.Parse(strings.Repeat("9", 60))
	d.Tiers[0].Fix.Depth = field.Mul(x, x)
	if _, e := Check(d); e != api.OK {
		t.Errorf("P16.1: %v", e)
	}
}

func TestPart(t *testing.T) { // P16.1
	for v, want := range map[int]int{5: Crown, 0: Girdle, -5: Pavilion, math.MinInt: Pavilion} {
		if Part(api.Setting{V: v}) != want {
			t.Errorf("P16.1: %d", v)
		}
	}
}
