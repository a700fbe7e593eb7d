package tariff

import (
	"math"
	"math/rand"
	"slices"
	"strings"
	"testing"

	"culet/api"
)

func tariffs() []Tariff {
	l := []Tariff{
		{"ruby", []Class{{0, 100}, {500, 300}}}, {"opal", []Class{{0, 0}}}, {"jade", []Class{{0, 1000000}, {1, 5}, {1000000, 7}}}, {"agate", []Class{{0, 3}, {7, 3}, {9, 2}, {2000, 900}}}, {"beryl", []Class{{0, 999}, {1000, 998}}},
	}
	r := rand.New(rand.NewSource(1))
	for range 10 {
		t := Tariff{Material: "m"}
		from := 0
		for range 1 + r.Intn(20) {
			t.Classes = append(t.Classes, Class{from, r.Intn(2000)})
			from += 1 + r.Intn(900)
		}
		l = append(l, t)
	}
	return l
}

// plain finds class and value by the definition.
func plain(t Tariff, w int) (class, value int) {
	for i, c := range t.Classes {
		if c.From <= w {
			class = i
		}
	}
	return class, w * t.Classes[class].Price / 1000
}

func weights(t Tariff) []int {
	l := []int{0, 1, 2, 399, 400, 999, 1000, 1001, 5000, 999999, 1000000}
	for _, c := range t.Classes {
		l = append(l, max(c.From-1, 0), c.From, min(c.From+1, MaxWeight))
	}
	slices.Sort(l)
	return l
}

func TestSteps(t *testing.T) { // P44.1, P44.3, P44.4
	fair := [2]int{}
	for i, x := range tariffs() {
		if !Valid(x) {
			t.Fatalf("P44.1: %d", i)
		}
		last, lastClass, lastWeight, decreases := 0, 0, 0, false
		for _, w := range weights(x) {
			class, e1 := ClassOf(x, w)
			value, e2 := Value(x, w)
			step, e3 := Next(x, w)
			wc, wv := plain(x, w)
			k := slices.IndexFunc(x.Classes, func(c Class) bool { return c.From > w })
			if class != wc || value != wv || e1 != api.OK || e2 != api.OK || k < 0 && (e3 != api.ErrNone || step != 0) || k >= 0 && (e3 != api.OK || step != x.Classes[k].From) {
				t.Fatalf("P44.1: %d: %d: %d %d %d %v", i, w, class, value, step, e3)
			}
			if class == lastClass && value < last || class != lastClass && !slices.ContainsFunc(x.Classes, func(c Class) bool { return c.From > lastWeight && c.From <= w }) {
				t.Fatalf("P44.3: %d: %d", i, w)
			}
			decreases = decreases || value < last
			last, lastClass, lastWeight = value, class, w
		}
		if Fair(x) == decreases {
			t.Errorf("P44.4: %d: %v", i, decreases)
		}
		if decreases {
			fair[0]++
		} else {
			fair[1]++
		}
	}
	if fair[0] == 0 || fair[1] == 0 {
		t.Errorf("one-sided test: %v", fair)
	}
	x := tariffs()[0]
	a, _ := Value(x, 400)
	b, _ := Value(x, 500)
	if a != 40 || b != 150 || !Fair(x) {
		t.Error("P44.3: example")
	}
}

func TestLeast(t *testing.T) { // P44.5
	for i, x := range tariffs() {
		for _, v := range []int{math.MinInt, -1, 0, 1, 7, 100, 5000, 100000, 999999, 1000000, 5000000, math.MaxInt} {
			w, e := Least(x, v)
			if e != api.OK {
				for _, w := range weights(x) {
					if got, _ := Value(x, w); got >= v || e != api.ErrNone {
						t.Fatalf("P44.5: %d: %d: %v", i, v, e)
					}
				}
				continue
			}
			got, _ := Value(x, w)
			if got < v {
				t.Fatalf("P44.5: %d: %d: %d", i, v, w)
			}
			for _, less := range append(weights(x), w-1, w/2) {
				if got, e := Value(x, less); less < w && e == api.OK && got >= v {
					t.Fatalf("P44.5: %d: %d: %d is less than %d", i, v, less, w)
				}
			}
		}
	}
}

func TestSplitting(t *testing.T) { // P44.6
	r := rand.New(rand.NewSource(2))
	for i, x := range tariffs() {
		rising := slices.IsSortedFunc(x.Classes, func(a, b Class) int { return a.Price - b.Price })
		for range 200 {
			a, b := r.Intn(1500), r.Intn(1500)
			whole, _ := Value(x, a+b)
			parts, e := Total(x, []int{a, b})
			ca, _ := ClassOf(x, a)
			cb, _ := ClassOf(x, b)
			c, _ := ClassOf(x, a+b)
			if d := whole - parts; e != api.OK || ca == c && cb == c && (d >= 2 || d <= -2) || rising && d < 0 {
				t.Fatalf("P44.6: %d: %d %d", i, a, b)
			}
		}
	}
}

func TestTexts(t *testing.T) { // P44.2
	for i, x := range tariffs() {
		s, e := Print(x)
		y, e2 := Parse(s)
		if e != api.OK || len(s) <= 400 && (e2 != api.OK || !Equal(x, y)) || len(s) > 400 && e2 != api.ErrSyntax {
			t.Errorf("P44.2: %d: %s: %v %v", i, s, e, e2)
		}
		for k, y := range tariffs() {
			if Equal(x, y) != (i == k) {
				t.Errorf("P44.1: Equal %d %d", i, k)
			}
		}
	}
	if s, _ := Print(tariffs()[0]); s != "ruby: 0@100, 500@300" {
		t.Errorf("P44.2: %s", s)
	}
	long := Tariff{Material: strings.Repeat("m", 30)}
	for i := range 20 {
		long.Classes = append(long.Classes, Class{i * 50000, 1000000})
	}
	s, _ := Print(long)
	if x, e := Parse(s); len(s) > 400 || e != api.OK || !Equal(x, long) {
		t.Errorf("P44.2: %d bytes: %v", len(s), e)
	}
	for _, s := range []string{"", "ruby", "ruby:", "ruby: ", "ruby:0@1", "ruby: 0@1 ", " ruby: 0@1", "ruby: 0 @1", "ruby: 0@01", "ruby: 00@1", "ruby: +0@1", "ruby: 0@-1", "ruby: 1@1", "ruby: 0@1,5@2", "ruby: 0@1, 0@2", "ruby: 0@1, 5@2,", "ruby: 0@1000001", "ruby: 0@1, 1000001@1", "tier: 0@1", "ruby : 0@1", "ruby: 0@1, x@2", "ruby: 0@1@2", "ruby: 0@99999999999999999999", "a:b: 0@1", s + strings.Repeat(", 999999@1", 20)} {
		if x, e := Parse(s); !Equal(x, Tariff{}) || e != api.ErrSyntax {
			t.Errorf("P44.1: %q: %v", s, e)
		}
	}
}

func TestErrors(t *testing.T) { // P44.1
	good := tariffs()[0]
	many := Tariff{Material: "m"}
	for i := range 21 {
		many.Classes = append(many.Classes, Class{i, 1})
	}
	for i, bad := range []Tariff{{}, {"at", good.Classes}, {"m", nil}, {"m", []Class{{1, 1}}}, {"m", []Class{{-1, 1}}}, {"m", []Class{{0, -1}}}, {"m", []Class{{0, 1000001}}}, {"m", []Class{{0, 1}, {0, 1}}}, {"m", []Class{{0, 1}, {5, 1}, {4, 1}}}, {"m", []Class{{0, 1}, {1000001, 1}}}, many} {
		_, e1 := ClassOf(bad, -1)
		_, e2 := Value(bad, -1)
		_, e3 := Total(bad, make([]int, 1001))
		_, e4 := Next(bad, -1)
		_, e5 := Least(bad, 0)
		s, e6 := Print(bad)
		for k, e := range []api.Errno{e1, e2, e3, e4, e5, e6} {
			if e != api.ErrArg {
				t.Errorf("P44.1: %d %d: %v", i, k, e)
			}
		}
		if Valid(bad) || Fair(bad) || s != "" {
			t.Errorf("P44.1: %d", i)
		}
	}
	for _, w := range []int{-1, 1000001, math.MinInt} {
		_, e1 := ClassOf(good, w)
		_, e2 := Value(good, w)
		_, e3 := Total(good, []int{5, w})
		_, e4 := Next(good, w)
		if e1 != api.ErrRange || e2 != api.ErrRange || e3 != api.ErrRange || e4 != api.ErrRange {
			t.Errorf("P44.1: %d", w)
		}
	}
	if n, e := Total(good, make([]int, 1001)); n != 0 || e != api.ErrLimit {
		t.Errorf("P44.1: %v", e)
	}
	if n, e := Total(good, slices.Repeat([]int{500}, 1000)); n != 150000 || e != api.OK {
		t.Errorf("P44.1: %d %v", n, e)
	}
	if n, e := Total(good, nil); n != 0 || e != api.OK {
		t.Errorf("P44.1: %v", e)
	}
}
