package multiplan

import (
	"math/rand"
	"slices"
	"testing"

	"culet/api"
	"culet/separate"
	"culet/solid"
	"culet/vector"
)

func item(x, y, z, value int) Item {
	s, _ := solid.Block(1)
	s, _ = solid.Shift(s, vector.Of(x, y, z))
	return Item{s, value}
}

func lists() [][]Item {
	r := rand.New(rand.NewSource(1))
	l := [][]Item{nil, {item(0, 0, 0, 0)}, {item(0, 0, 0, 3), item(1, 0, 0, 4), item(2, 0, 0, 3)}, {item(0, 0, 0, 5), item(4, 0, 0, 0), item(8, 0, 0, 7)}, {item(0, 0, 0, 2), item(0, 0, 0, 2), item(5, 0, 0, 0)}}
	for _, n := range []int{4, 7, 9, 12} {
		items := []Item{}
		for range n {
			items = append(items, item(r.Intn(6), r.Intn(4), r.Intn(3), r.Intn(5)*r.Intn(20)))
		}
		l = append(l, items)
	}
	return l
}

func overlap(a, b Item) bool { return !separate.Disjoint(a.Solid, b.Solid) }

// subsets lists all choices, in lexicographical order.
func subsets(l []Item) (all [][]int) {
	over := [12][12]bool{}
	for i := range l {
		for k := range i {
			over[i][k] = overlap(l[i], l[k])
		}
	}
	for mask := range 1 << len(l) {
		choice, ok := []int{}, true
		for i := range l {
			if mask>>i&1 == 0 {
				continue
			}
			for _, k := range choice {
				ok = ok && !over[i][k]
			}
			choice = append(choice, i)
		}
		if ok {
			all = append(all, choice)
		}
	}
	slices.SortFunc(all, slices.Compare[[]int])
	return all
}

func sum(l []Item, choice []int) (n int) {
	for _, i := range choice {
		n += l[i].Value
	}
	return n
}

func TestBest(t *testing.T) { // P46.1, P46.2, P46.3, P46.5
	for i, l := range lists() {
		pairs, e := Overlaps(l)
		want := [][2]int{}
		for a := range l {
			for b := a + 1; b < len(l); b++ {
				if overlap(l[a], l[b]) {
					want = append(want, [2]int{a, b})
				}
			}
		}
		if e != api.OK || !slices.Equal(pairs, want) {
			t.Fatalf("P46.1: %d: %v", i, pairs)
		}
		best, value, e := Best(l)
		all := subsets(l)
		first := []int{}
		for _, c := range all {
			if sum(l, c) > sum(l, first) {
				first = c
			}
		}
		if e != api.OK || !slices.Equal(best, first) || value != sum(l, first) {
			t.Fatalf("P46.2: %d: %v, want %v", i, best, first)
		}
		cover, e := Cover(l)
		bound, e2 := Bound(l, cover)
		single := [][]int{{}}
		for k := range l {
			single = append(single, []int{k, k})
		}
		loose, e3 := Bound(l, single)
		if e != api.OK || e2 != api.OK || e3 != api.OK || value > bound || value > loose || loose != sum(l, flat(single))/2 {
			t.Fatalf("P46.3: %d: %d %d %v %v", i, bound, loose, e2, e3)
		}
		for j, c := range all {
			if j > 12 && j%29 != 0 || j > 400 {
				continue
			}
			v, e := Check(l, c)
			if e != api.OK || v != sum(l, c) || v > bound {
				t.Fatalf("P46.5: %d: %v", i, c)
			}
			if len(c) > 0 {
				k := j % len(c)
				if _, e := Check(l, append(slices.Clone(c[:k]), c[k+1:]...)); e != api.OK {
					t.Fatalf("P46.5: %d: %v without %d", i, c, k)
				}
			}
		}
	}
	best, value, _ := Best(lists()[2])
	if !slices.Equal(best, []int{0, 2}) || value != 6 {
		t.Errorf("P46.2: example: %v", best)
	}
}

func flat(l [][]int) []int { return slices.Concat(l...) }

func TestGreedy(t *testing.T) { // P46.4, P46.5
	for i, l := range lists() {
		c, value, e := Greedy(l)
		v, e2 := Check(l, c)
		rest, e3 := Rest(l, c)
		if e != api.OK || e2 != api.OK || e3 != api.OK || v != value || len(rest) != 0 {
			t.Fatalf("P46.4: %d: %v %v", i, c, rest)
		}
		order := []int{}
		for k := range l {
			order = append(order, k)
		}
		slices.SortStableFunc(order, func(a, b int) int { return l[b].Value - l[a].Value })
		want := []int{}
		for _, k := range order {
			if !slices.ContainsFunc(want, func(j int) bool { return overlap(l[j], l[k]) }) {
				want = append(want, k)
			}
		}
		slices.Sort(want)
		if !slices.Equal(c, want) {
			t.Errorf("P46.4: %d: %v, want %v", i, c, want)
		}
		for k := range l {
			rest, e := Rest(l, []int{k})
			for j := range l {
				can := j != k && !overlap(l[j], l[k])
				more := []int{min(j, k), max(j, k)}
				if e != api.OK || can != slices.Contains(rest, j) || can && (j+k)%4 == 0 && !okay(l, more) {
					t.Errorf("P46.5: %d: %v", i, more)
				}
			}
			if !slices.IsSorted(rest) {
				t.Errorf("P46.1: %v", rest)
			}
		}
	}
}

func okay(l []Item, c []int) bool {
	_, e := Check(l, c)
	return e == api.OK
}

func TestCover(t *testing.T) { // P46.1, P46.3
	for i, l := range lists() {
		cover, _ := Cover(l)
		want := [][]int{}
	items:
		for k := range l {
			for j := range want {
				if !slices.ContainsFunc(want[j], func(m int) bool { return !overlap(l[m], l[k]) }) {
					want[j] = append(want[j], k)
					continue items
				}
			}
			want = append(want, []int{k})
		}
		if !slices.EqualFunc(cover, want, slices.Equal[[]int]) {
			t.Errorf("P46.1: %d: %v, want %v", i, cover, want)
		}
	}
	l := lists()[2]
	for i, c := range []struct {
		cover [][]int
		n     int
		e     api.Errno
	}{
		{[][]int{{0, 1}, {1, 2}}, 8, api.OK}, {[][]int{{1, 0}, nil, {2, 2}}, 7, api.OK}, {[][]int{{0, 2}, {1}}, 0, api.ErrOverlap}, {[][]int{{0, 1}}, 0, api.ErrNone}, {nil, 0, api.ErrNone}, {[][]int{{0, 2}, {3}}, 0, api.ErrRange}, {[][]int{{-1}}, 0, api.ErrRange}, {[][]int{{0, 2}}, 0, api.ErrOverlap},
	} {
		if n, e := Bound(l, c.cover); n != c.n || e != c.e {
			t.Errorf("P46.1: %d: %d %v", i, n, e)
		}
	}
}

func TestApart(t *testing.T) { // P46.6, P46.7
	best, value, _ := Best(lists()[3])
	if !slices.Equal(best, []int{0, 1, 2}) || value != 12 {
		t.Errorf("P46.6: %v", best)
	}
	for i, l := range lists() {
		if len(l) == 0 {
			continue
		}
		_, all, _ := Best(l)
		_, less, _ := Best(l[:len(l)-1])
		if less > all || all-less > l[len(l)-1].Value {
			t.Errorf("P46.7: %d: %d %d", i, less, all)
		}
	}
}

func TestErrors(t *testing.T) { // P46.1
	many := slices.Repeat([]Item{item(0, 0, 0, 1)}, 13)
	if !Valid(many[:12]) || !Valid(nil) || !Valid([]Item{item(0, 0, 0, MaxValue)}) {
		t.Error("P46.1: valid")
	}
	for i, bad := range [][]Item{many, {item(0, 0, 0, -1)}, {item(0, 0, 0, MaxValue+1)}, {item(0, 0, 0, 1), {}}} {
		_, e1 := Overlaps(bad)
		v, e2 := Check(bad, []int{99})
		_, w, e3 := Best(bad)
		_, x, e4 := Greedy(bad)
		_, e5 := Cover(bad)
		n, e6 := Bound(bad, [][]int{{99}})
		if v != 0 || w != 0 || x != 0 || n != 0 {
			t.Errorf("P46.1: %d: results", i)
		}
		_, e7 := Rest(bad, []int{99})
		for k, e := range []api.Errno{e1, e2, e3, e4, e5, e6, e7} {
			if e != api.ErrArg {
				t.Errorf("P46.1: %d %d: %v", i, k, e)
			}
		}
		if Valid(bad) {
			t.Errorf("P46.1: %d", i)
		}
	}
	l := lists()[2]
	for i, c := range []struct {
		c []int
		e api.Errno
	}{{[]int{1, 0, 3}, api.ErrRange}, {[]int{-1}, api.ErrRange}, {[]int{1, 0}, api.ErrOrder}, {[]int{0, 0}, api.ErrOrder}, {[]int{0, 1}, api.ErrOverlap}, {nil, api.OK}} {
		v, e1 := Check(l, c.c)
		r, e2 := Rest(l, c.c)
		if e1 != c.e || e2 != c.e || v != 0 || e1 != api.OK && r != nil {
			t.Errorf("P46.1: %d: %v %v", i, e1, e2)
		}
	}
}
