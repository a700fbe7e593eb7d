package yields

import (
	"math/big"
	"math/rand"
	"slices"
	"strings"
	"testing"

	"culet/api"
	"culet/field"
)

func num(s string) api.Num {
	x, _ := field.Parse(s)
	return x
}

func rat(x api.Num) *big.Rat {
	v, ok := new(big.Rat).SetString(field.Print(x))
	if !ok {
		return nil
	}
	return v
}

func lists() [][]Record {
	r := rand.New(rand.NewSource(1))
	l := [][]Record{{{"round", "ruby", 100, 40, 5}, {"round", "opal", 200, 60, 7}}, {{"a", "m", 1000000, 1, 0}}, {{"b", "m", 4, 2, 1}, {"a", "m", 6, 3, 1}, {"c", "n", 2, 1, 1}}}
	for _, n := range []int{2, 3, 7, 12, 40, 200} {
		records := []Record{}
		for range n {
			rough := 1 + r.Intn(3000)
			records = append(records, Record{string(rune('a' + r.Intn(4))), string(rune('m' + r.Intn(3))), rough, 1 + r.Intn(rough), r.Intn(900)})
		}
		l = append(l, records)
	}
	return l
}

func yieldsOf(l []Record) (out []*big.Rat) {
	for _, r := range l {
		out = append(out, big.NewRat(int64(r.Cut), int64(r.Rough)))
	}
	return out
}

func average(l []*big.Rat) *big.Rat {
	sum := new(big.Rat)
	for _, x := range l {
		sum.Add(sum, x)
	}
	return sum.Quo(sum, big.NewRat(int64(len(l)), 1))
}

func TestStatistics(t *testing.T) { // P56.1, P56.2, P56.6, P56.7
	for i, l := range lists() {
		ys := yieldsOf(l)
		total, e1 := Total(l)
		m, e2 := Mean(l)
		v, e3 := Variance(l)
		median, e4 := Median(l)
		if e1 != api.OK || e2 != api.OK || e3 != api.OK || e4 != api.OK {
			t.Fatal(e1, e2, e3, e4)
		}
		rough, cut := 0, 0
		for _, r := range l {
			rough += r.Rough
			cut += r.Cut
		}
		mean := average(ys)
		squares, deviations := []*big.Rat{}, []*big.Rat{}
		for _, y := range ys {
			d := new(big.Rat).Sub(y, mean)
			deviations = append(deviations, d.Mul(d, d))
			squares = append(squares, new(big.Rat).Mul(y, y))
		}
		variance := average(deviations)
		if rat(total).Cmp(big.NewRat(int64(cut), int64(rough))) != 0 || rat(m).Cmp(mean) != 0 || rat(v).Cmp(variance) != 0 {
			t.Fatalf("P56.1: %d", i)
		}
		if other := new(big.Rat).Sub(average(squares), new(big.Rat).Mul(mean, mean)); other.Cmp(variance) != 0 {
			t.Errorf("P56.7: %d", i)
		}
		sorted := slices.Clone(ys)
		slices.SortFunc(sorted, func(a, b *big.Rat) int { return a.Cmp(b) })
		n := len(sorted)
		if want := average([]*big.Rat{sorted[(n-1)/2], sorted[n/2]}); rat(median).Cmp(want) != 0 {
			t.Errorf("P56.1: %d: median", i)
		}
		for _, x := range []api.Num{total, m, median} {
			if rat(x).Cmp(sorted[0]) < 0 || rat(x).Cmp(sorted[n-1]) > 0 {
				t.Errorf("P56.2: %d", i)
			}
		}
		if equal := sorted[0].Cmp(sorted[n-1]) == 0; field.Sign(v) < 0 || equal != (v == num("0")) {
			t.Errorf("P56.2: %d: variance", i)
		}
		below, _ := Below(l, median)
		above := 0
		for _, y := range ys {
			if y.Cmp(rat(median)) > 0 {
				above++
			}
		}
		if 2*below > n || 2*above > n {
			t.Errorf("P56.6: %d: %d %d", i, below, above)
		}
	}
}

func TestTrend(t *testing.T) { // P56.1, P56.3
	for i, l := range lists() {
		trend, e := Trend(l)
		if len(l) < 2 {
			if e != api.ErrNone || trend != (api.Num{}) {
				t.Errorf("P56.1: %d: %v", i, e)
			}
			continue
		}
		ys := yieldsOf(l)
		mean, m := average(ys), big.NewRat(int64(len(l)-1), 2)
		above, below := new(big.Rat), new(big.Rat)
		for k, y := range ys {
			d := new(big.Rat).Sub(big.NewRat(int64(k), 1), m)
			above.Add(above, new(big.Rat).Mul(d, new(big.Rat).Sub(y, mean)))
			below.Add(below, new(big.Rat).Mul(d, d))
		}
		if e != api.OK || rat(trend).Cmp(above.Quo(above, below)) != 0 {
			t.Errorf("P56.1: %d: trend %s", i, field.Print(trend))
		}
		back := slices.Clone(l)
		slices.Reverse(back)
		other, _ := Trend(back)
		a, _ := Total(l)
		b, _ := Total(back)
		c, _ := Variance(l)
		d, _ := Variance(back)
		f, _ := Median(l)
		g, _ := Median(back)
		if other != field.Neg(trend) || a != b || c != d || f != g {
			t.Errorf("P56.3: %d", i)
		}
	}
	l := lists()[0]
	total, _ := Total(l)
	m, _ := Mean(l)
	v, _ := Variance(l)
	trend, _ := Trend(l)
	lines, _ := Lines(l)
	if total != num("1/3") || m != num("7/20") || v != num("1/400") || trend != num("-1/10") || !slices.Equal(lines, []string{"round 2 rough 300 cut 100 33.3%"}) {
		t.Errorf("P56.1: example: %v", lines)
	}
}

func TestGroups(t *testing.T) { // P56.4
	for i, l := range lists() {
		for _, byMaterial := range []bool{false, true} {
			groups, e := Group(l, byMaterial)
			sum := Summary{}
			total, _ := Total(l)
			least, most := num("2"), num("-1")
			for k, g := range groups {
				want := Summary{Name: g.Name}
				for _, r := range l {
					if byMaterial && r.Material == g.Name || !byMaterial && r.Design == g.Name {
						want = Summary{g.Name, want.Count + 1, want.Rough + r.Rough, want.Cut + r.Cut, want.Minutes + r.Minutes}
					}
				}
				if g != want || g.Count == 0 || k > 0 && groups[k-1].Name >= g.Name {
					t.Errorf("P56.4: %d: %v", i, groups)
				}
				sum = Summary{"", sum.Count + g.Count, sum.Rough + g.Rough, sum.Cut + g.Cut, sum.Minutes + g.Minutes}
				y, _ := field.Ratio(g.Cut, g.Rough)
				if field.Cmp(y, least) < 0 {
					least = y
				}
				if field.Cmp(y, most) > 0 {
					most = y
				}
			}
			if e != api.OK || sum.Count != len(l) || field.Cmp(total, least) < 0 || field.Cmp(total, most) > 0 {
				t.Errorf("P56.4: %d: %v", i, sum)
			}
		}
		best, e := Best(l)
		groups, _ := Group(l, false)
		k := slices.IndexFunc(groups, func(g Summary) bool { return g.Name == best })
		for j, g := range groups {
			a, b := g.Cut*groups[k].Rough, groups[k].Cut*g.Rough
			if e != api.OK || a > b || a == b && j < k {
				t.Errorf("P56.1: %d: best %s", i, best)
			}
		}
		lines, e := Lines(l)
		for j, g := range groups {
			y, _ := field.Ratio(g.Cut, g.Rough)
			p, _ := Percent(y)
			if e != api.OK || !strings.HasPrefix(lines[j], g.Name+" ") || !strings.HasSuffix(lines[j], " "+p) || len(lines) != len(groups) {
				t.Errorf("P56.1: %d: %v", i, lines)
			}
		}
	}
}

func TestScale(t *testing.T) { // P56.5
	for i, l := range lists()[:5] {
		if i == 1 {
			continue
		}
		scaled := slices.Clone(l)
		for k := range scaled {
			scaled[k].Rough *= 7 + k
			scaled[k].Cut *= 7 + k
		}
		a, _ := Mean(l)
		b, _ := Mean(scaled)
		c, _ := Variance(l)
		d, _ := Variance(scaled)
		f, _ := Trend(l)
		g, _ := Trend(scaled)
		if a != b || c != d || f != g {
			t.Errorf("P56.5: %d", i)
		}
	}
}

func TestPercent(t *testing.T) { // P56.1
	for x, want := range map[string]string{"0": "0.0%", "1": "100.0%", "1/3": "33.3%", "2/3": "66.7%", "1/2000": "0.1%", "1/2001": "0.0%", "999/1000": "99.9%", "0.9995": "100.0%", "0.05": "5.0%", "0.99949": "99.9%"} {
		if s, e := Percent(num(x)); s != want || e != api.OK {
			t.Errorf("P56.1: %s: %s %v", x, s, e)
		}
	}
	for _, x := range []string{"-1/1000000", "1.0000001", "r2-1", "1/2r2"} {
		if s, e := Percent(num(x)); s != "" || e != api.ErrRange {
			t.Errorf("P56.1: %s: %v", x, e)
		}
	}
	for x, want := range map[string]int{"0": 0, "2/5": 1, "0.41": 2, "r2-1": 2, "1/3r2": 2, "-5": 0, "3/10": 0} {
		if n, e := Below(lists()[0], num(x)); n != want || e != api.OK {
			t.Errorf("P56.1: below %s: %d", x, n)
		}
	}
}

func TestErrors(t *testing.T) { // P56.1
	good := Record{"a", "m", 10, 5, 0}
	many := slices.Repeat([]Record{good}, 201)
	if !Valid(many[:200]) || !Valid(nil) || !Valid([]Record{{"a", "m", 5, 5, 100000}, {"a", "m", 1, 1, 0}}) {
		t.Error("P56.1: valid")
	}
	for i, bad := range [][]Record{many, {{"at", "m", 1, 1, 0}}, {{"a", "", 1, 1, 0}}, {good, {"a", "m", 0, 0, 0}}, {{"a", "m", 1000001, 1, 0}}, {{"a", "m", 5, 0, 0}}, {{"a", "m", 5, 6, 0}}, {{"a", "m", 5, 5, -1}}, {{"a", "m", 5, 5, 100001}}} {
		_, e1 := Total(bad)
		_, e2 := Mean(bad)
		_, e3 := Variance(bad)
		_, e4 := Median(bad)
		_, e5 := Trend(bad)
		_, e6 := Below(bad, num("1"))
		g, e7 := Group(bad, false)
		s, e8 := Best(bad)
		l, e9 := Lines(bad)
		for k, e := range []api.Errno{e1, e2, e3, e4, e5, e6, e7, e8, e9} {
			if e != api.ErrArg {
				t.Errorf("P56.1: %d %d: %v", i, k, e)
			}
		}
		if Valid(bad) || g != nil || s != "" || l != nil {
			t.Errorf("P56.1: %d", i)
		}
	}
	_, e1 := Total(nil)
	_, e2 := Mean(nil)
	_, e3 := Variance(nil)
	_, e4 := Median(nil)
	_, e5 := Trend([]Record{good})
	_, e6 := Best(nil)
	for k, e := range []api.Errno{e1, e2, e3, e4, e5, e6} {
		if e != api.ErrNone {
			t.Errorf("P56.1: %d: %v", k, e)
		}
	}
	_, e1 = Below(nil, api.Num{})
	_, e2 = Percent(api.Num{})
	n, e3 := Below(nil, num("1"))
	g, e4 := Group(nil, true)
	if e1 != api.ErrArg || e2 != api.ErrArg || e3 != api.OK || e4 != api.OK || n != 0 || len(g) != 0 {
		t.Errorf("P56.1: %v %v %v %v", e1, e2, e3, e4)
	}
}
