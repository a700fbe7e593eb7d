package schedule

import (
	"math"
	"math/rand"
	"slices"
	"strconv"
	"strings"
	"testing"

	"culet/api"
)

func problems() []Problem {
	r := rand.New(rand.NewSource(1))
	l := []Problem{{1, nil}, {2, []Task{{"a", 2, 9, nil}, {"b", 2, 9, nil}, {"c", 3, 9, nil}}}}
	for i := range 60 {
		p := Problem{Machines: 1 + i%4}
		for k := range 1 + r.Intn(6) {
			t := Task{ID: "t" + strconv.Itoa(k), Minutes: 1 + r.Intn(20), Due: r.Intn(60)}
			for j := range k {
				if i%3 > 0 && r.Intn(3) == 0 {
					t.After = append(t.After, j)
				}
			}
			p.Tasks = append(p.Tasks, t)
		}
		l = append(l, p)
	}
	return l
}

func permutations(n int) (l [][]int) {
	if n == 0 {
		return [][]int{{}}
	}
	for _, p := range permutations(n - 1) {
		for at := range n {
			l = append(l, slices.Insert(slices.Clone(p), at, n-1))
		}
	}
	slices.SortFunc(l, slices.Compare[[]int])
	return l
}

// simulate builds the list schedule by the definition.
func simulate(p Problem, order []int) []Slot {
	l := make([]Slot, len(p.Tasks))
	ends := map[int]int{}
	free := make([]int, p.Machines)
	for len(ends) < len(order) {
	next:
		for _, i := range order {
			if _, placed := ends[i]; placed {
				continue
			}
			for _, k := range p.Tasks[i].After {
				if _, placed := ends[k]; !placed {
					continue next
				}
			}
			m := slices.Index(free, slices.Min(free))
			start := free[m]
			for _, k := range p.Tasks[i].After {
				start = max(start, ends[k])
			}
			l[i] = Slot{m, start}
			ends[i] = start + p.Tasks[i].Minutes
			free[m] = ends[i]
			break
		}
	}
	return l
}

func sum(p Problem) (n int) {
	for _, t := range p.Tasks {
		n += t.Minutes
	}
	return n
}

func after(p Problem) bool {
	return slices.ContainsFunc(p.Tasks, func(t Task) bool { return len(t.After) > 0 })
}

func TestLists(t *testing.T) { // P55.1, P55.2, P55.3, P55.4, P55.5, P55.7
	for i, p := range problems() {
		if !Valid(p) {
			t.Fatalf("P55.1: %d", i)
		}
		bound, e := Bound(p)
		paths, e2 := Paths(p)
		best, late, e3 := Best(p)
		if e != api.OK || e2 != api.OK || e3 != api.OK {
			t.Fatal(e, e2, e3)
		}
		least, first := math.MaxInt, []int{}
		dueOrder, _ := ByDue(p)
		byDue, _ := List(p, dueOrder)
		dueLate, _ := Lateness(p, byDue)
		for _, order := range permutations(len(p.Tasks)) {
			l, e := List(p, order)
			if e != api.OK || !slices.Equal(l, simulate(p, order)) || Check(p, l) != api.OK {
				t.Fatalf("P55.2: %d: %v: %v", i, order, l)
			}
			length, _ := Length(p, l)
			lateness, _ := Lateness(p, l)
			wantLength, wantLate := 0, math.MinInt
			for k, x := range p.Tasks {
				end := l[k].Start + x.Minutes
				wantLength, wantLate = max(wantLength, end), max(wantLate, end-x.Due)
				if end < paths[k] {
					t.Fatalf("P55.7: %d: %v", i, l)
				}
			}
			if len(p.Tasks) == 0 {
				wantLate = 0
			}
			if length != wantLength || lateness != wantLate {
				t.Fatalf("P55.1: %d: %d %d", i, length, lateness)
			}
			if length < bound || length > sum(p) || !after(p) && length*p.Machines > (2*p.Machines-1)*bound || p.Machines == 1 && length != sum(p) {
				t.Fatalf("P55.3: %d: %d, bound %d", i, length, bound)
			}
			if p.Machines == 1 && !after(p) && lateness < dueLate {
				t.Fatalf("P55.4: %d: %d %d", i, lateness, dueLate)
			}
			if lateness < least {
				least, first = lateness, order
			}
		}
		if !slices.Equal(best, first) || late != least {
			t.Errorf("P55.5: %d: %v %d, want %v %d", i, best, late, first, least)
		}
		for k, x := range p.Tasks {
			longest := 0
			for _, j := range x.After {
				longest = max(longest, paths[j])
			}
			if paths[k] != longest+x.Minutes {
				t.Errorf("P55.1: %d: paths %v", i, paths)
			}
		}
	}
	p := problems()[1]
	l, _ := List(p, []int{0, 1, 2})
	length, _ := Length(p, l)
	bound, _ := Bound(p)
	if !slices.Equal(l, []Slot{{0, 0}, {1, 0}, {0, 2}}) || length != 5 || bound != 4 {
		t.Errorf("P55.1: example: %v %d %d", l, length, bound)
	}
}

func TestDelay(t *testing.T) { // P55.6
	for i, p := range problems() {
		order, _ := ByDue(p)
		l, _ := List(p, order)
		later := slices.Clone(l)
		for k := range later {
			later[k].Start += 500
		}
		a, _ := Length(p, l)
		b, e := Length(p, later)
		c, _ := Lateness(p, l)
		d, _ := Lateness(p, later)
		if len(l) > 0 && (e != api.OK || b != a+500 || d != c+500) {
			t.Errorf("P55.6: %d: %v", i, e)
		}
	}
}

func TestCheck(t *testing.T) { // P55.1
	p := Problem{2, []Task{{"a", 5, 0, nil}, {"b", 5, 0, nil}, {"c", 5, 0, []int{0}}}}
	for i, c := range []struct {
		l []Slot
		e api.Errno
	}{
		{[]Slot{{0, 0}, {1, 0}, {0, 5}}, api.OK}, {[]Slot{{0, 0}, {0, 5}, {1, 5}}, api.OK}, {[]Slot{{0, 1000000}, {0, 999995}, {1, 0}}, api.ErrOrder}, {nil, api.ErrArg}, {[]Slot{{0, 0}, {1, 0}}, api.ErrArg}, {[]Slot{{2, 0}, {1, 0}, {0, 5}}, api.ErrRange}, {[]Slot{{-1, 0}, {1, 0}, {0, 5}}, api.ErrRange}, {[]Slot{{0, 0}, {1, -1}, {0, 5}}, api.ErrRange}, {[]Slot{{0, 0}, {1, 0}, {0, 1000001}}, api.ErrRange}, {[]Slot{{0, 0}, {0, 4}, {1, 0}}, api.ErrOverlap}, {[]Slot{{0, 4}, {0, 0}, {1, 0}}, api.ErrOverlap}, {[]Slot{{0, 0}, {0, 0}, {9, 0}}, api.ErrRange}, {[]Slot{{0, 0}, {1, 0}, {1, 5}}, api.OK}, {[]Slot{{0, 1}, {1, 0}, {1, 5}}, api.ErrOrder}, {[]Slot{{0, math.MinInt}, {1, 0}, {1, 5}}, api.ErrRange},
	} {
		n, e1 := Length(p, c.l)
		m, e2 := Lateness(p, c.l)
		lines, e3 := Gantt(p, c.l)
		if e := Check(p, c.l); e != c.e || e1 != e || e2 != e || e3 != e || e != api.OK && (n != 0 || m != 0 || lines != nil) {
			t.Errorf("P55.1: %d: %v", i, e)
		}
	}
}

func TestGantt(t *testing.T) { // P55.1
	p := Problem{3, []Task{{"a", 5, 0, nil}, {"b", 5, 0, nil}, {"c", 5, 0, nil}}}
	lines, e := Gantt(p, []Slot{{0, 7}, {2, 0}, {0, 2}})
	if !slices.Equal(lines, []string{"c@2 a@7", "", "b@0"}) || e != api.OK {
		t.Errorf("P55.1: %q", lines)
	}
	for i, p := range problems() {
		order, _ := ByDue(p)
		l, _ := List(p, order)
		lines, e := Gantt(p, l)
		if e != api.OK || len(lines) != p.Machines || len(strings.Fields(strings.Join(lines, " "))) != len(p.Tasks) {
			t.Errorf("P55.1: %d: %q", i, lines)
		}
	}
}

func TestErrors(t *testing.T) { // P55.1
	task := func(id string, minutes, due int, after ...int) Task { return Task{id, minutes, due, after} }
	many := Problem{Machines: 1}
	for i := range 41 {
		many.Tasks = append(many.Tasks, task("t"+strconv.Itoa(i), 1, 0))
	}
	for i, p := range []Problem{{}, {0, nil}, {5, nil}, many, {1, []Task{task("at", 1, 0)}}, {1, []Task{task("a", 0, 0)}}, {1, []Task{task("a", 10001, 0)}}, {1, []Task{task("a", 1, -1)}}, {1, []Task{task("a", 1, 1000001)}}, {1, []Task{task("a", 1, 0, 0)}}, {1, []Task{task("a", 1, 0, -1)}}, {1, []Task{task("a", 1, 0), task("a", 1, 0)}}, {1, []Task{task("a", 1, 0), task("b", 1, 0), task("c", 1, 0, 1, 0)}}, {1, []Task{task("a", 1, 0), task("b", 1, 0, 0, 0)}}} {
		a, e1 := List(p, nil)
		b, e2 := Paths(p)
		_, e3 := Bound(p)
		c, e4 := ByDue(p)
		d, late, e5 := Best(p)
		if late != 0 {
			t.Errorf("P55.1: %d: %d", i, late)
		}
		if Valid(p) || Check(p, nil) != api.ErrArg || e1 != api.ErrArg || e2 != api.ErrArg || e3 != api.ErrArg || e4 != api.ErrArg || e5 != api.ErrArg || a != nil || b != nil || c != nil || d != nil {
			t.Errorf("P55.1: %d", i)
		}
	}
	many.Tasks = many.Tasks[:40]
	order, e := ByDue(many)
	l, e2 := List(many, order)
	if e != api.OK || e2 != api.OK || len(l) != 40 {
		t.Errorf("P55.1: %v %v", e, e2)
	}
	many.Tasks = many.Tasks[:7]
	if o, late, e := Best(many); o != nil || late != 0 || e != api.ErrLimit {
		t.Errorf("P55.1: %v", e)
	}
	p := problems()[1]
	for _, order := range [][]int{nil, {0, 1}, {0, 1, 1}, {0, 1, 3}, {-1, 0, 1}, {0, 1, 2, 2}} {
		if l, e := List(p, order); l != nil || e != api.ErrArg {
			t.Errorf("P55.1: %v: %v", order, e)
		}
	}
	due := Problem{1, []Task{task("a", 1, 5), task("b", 1, 3), task("c", 1, 5), task("d", 1, 3)}}
	if o, _ := ByDue(due); !slices.Equal(o, []int{1, 3, 0, 2}) {
		t.Errorf("P55.1: %v", o)
	}
	if o, late, e := Best(Problem{1, []Task{task("a", 1, 5)}}); !slices.Equal(o, []int{0}) || late != -4 || e != api.OK {
		t.Errorf("P55.5: %d %v", late, e)
	}
}
