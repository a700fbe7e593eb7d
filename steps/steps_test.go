package steps

import (
	"slices"
	"strconv"
	"testing"

	"culet/api"
)

func plan(laps int, sides ...int) Plan {
	p := Plan{Change: 5, Transfer: 20}
	for i := range laps {
		p.Laps = append(p.Laps, Lap{"lap" + strconv.Itoa(i), 600 * (i + 1), 3 - i%3})
	}
	for i, s := range sides {
		p.Works = append(p.Works, Work{"w" + strconv.Itoa(i), s, 8 + i})
	}
	return p
}

func plans() []Plan {
	return []Plan{plan(1, Pavilion), plan(1, Crown), plan(1, Pavilion, Crown), plan(2, Pavilion, Crown), plan(2, Crown, Pavilion, Crown), plan(3, Crown, Crown), plan(2, Pavilion, Pavilion, Pavilion), plan(6, Crown, Pavilion, Pavilion, Crown, Crown)}
}

// permitted checks a whole list by the definition.
func permitted(p Plan, l []Step) bool {
	lap, transfers := -1, []int{}
	cuts := map[[2]int]int{}
	order := []Step{}
	for i, s := range l {
		switch {
		case s.Kind == Change && s.Work == 0 && s.Lap >= 0 && s.Lap < len(p.Laps):
			if s.Lap == lap {
				return false
			}
			lap = s.Lap
		case s == Step{Kind: Transfer}:
			transfers = append(transfers, i)
		case s.Kind == Cut && s.Work >= 0 && s.Work < len(p.Works):
			if s.Lap != lap {
				return false
			}
			cuts[[2]int{s.Work, s.Lap}]++
			order = append(order, Step{i, s.Lap, s.Work})
		default:
			return false
		}
	}
	both := slices.ContainsFunc(p.Works, func(x Work) bool { return x.Side == Pavilion }) && slices.ContainsFunc(p.Works, func(x Work) bool { return x.Side == Crown })
	if both != (len(transfers) == 1) || !both && len(transfers) > 0 {
		return false
	}
	for w := range p.Works {
		for k := range p.Laps {
			if cuts[[2]int{w, k}] != 1 {
				return false
			}
		}
	}
	for i, a := range order {
		if both && (p.Works[a.Work].Side == Crown) != (a.Kind > transfers[0]) {
			return false
		}
		for _, b := range order[:i] {
			if b.Work == a.Work && b.Lap > a.Lap || b.Lap == a.Lap && b.Work > a.Work && p.Works[a.Work].Side == p.Works[b.Work].Side {
				return false
			}
		}
	}
	return true
}

func TestPermitted(t *testing.T) { // P49.1, P49.2, P49.5
	for i, p := range plans() {
		l, e := Of(p)
		n, e2 := Check(p, l)
		if !Valid(p) || e != api.OK || n != len(l) || e2 != api.OK || !permitted(p, l) {
			t.Fatalf("P49.2: %d: %v %d %v", i, l, n, e2)
		}
		for k := range len(l) + 1 {
			rest, e := Rest(p, l[:k])
			if e != api.OK || !slices.Equal(slices.Concat(l[:k], rest), l) {
				t.Errorf("P49.5: %d %d: %v", i, k, e)
			}
			if n, e := Check(p, l[:k]); k < len(l) && (n != k || e != api.ErrState) {
				t.Errorf("P49.1: %d %d: %d %v", i, k, n, e)
			}
		}
		if rest, e := Rest(p, append(slices.Clone(l), l[0])); e != api.ErrOrder || rest != nil {
			t.Errorf("P49.5: %d: %v", i, e)
		}
		if rest, e := Rest(p, []Step{{Kind: Transfer}}); e != api.ErrOrder || rest != nil {
			t.Errorf("P49.5: %d: %v", i, e)
		}
	}
	p := plans()[3]
	l, _ := Of(p)
	lines, e := Lines(p, l)
	if want := []string{"lap lap0", "cut w0 8", "lap lap1", "cut w0 8", "transfer", "lap lap0", "cut w1 9", "lap lap1", "cut w1 9"}; !slices.Equal(lines, want) || e != api.OK {
		t.Errorf("P49.2: example: %v", lines)
	}
	l, _ = Of(plans()[2])
	if want := []Step{{Change, 0, 0}, {Cut, 0, 0}, {Transfer, 0, 0}, {Cut, 0, 1}}; !slices.Equal(l, want) {
		t.Errorf("P49.1: one lap: %v", l)
	}
}

// all lists all steps that a plan may have, and some wrong ones.
func all(p Plan) []Step {
	l := []Step{{Kind: Transfer}, {}, {Kind: 4}, {Change, len(p.Laps), 0}, {Change, -1, 0}, {Change, 0, 1}, {Transfer, 1, 0}, {Cut, 0, len(p.Works)}, {Cut, -1, 0}, {Cut, 0, -1}}
	for k := range p.Laps {
		l = append(l, Step{Change, k, 0})
		for w := range p.Works {
			l = append(l, Step{Cut, k, w})
		}
	}
	return l
}

func TestAll(t *testing.T) { // P49.1, P49.3, P49.4
	for i, p := range []Plan{plan(1, Pavilion, Crown), plan(2, Pavilion), plan(1, Crown, Crown), plan(2, Crown, Pavilion)} {
		best, _ := Of(p)
		least, e := Least(p)
		time, e2 := Time(p, best)
		if e != api.OK || e2 != api.OK || least != Changes(best) {
			t.Fatalf("P49.3: %d: %v", i, e)
		}
		count := 0
		// Each list of steps is permitted, or has a first step that is not, or lacks something.
		var search func(l []Step, depth int)
		search = func(l []Step, depth int) {
			n, e := Check(p, l)
			if (e == api.OK) != permitted(p, l) {
				t.Fatalf("P49.1: %d: %v: %d %v", i, l, n, e)
			}
			if e == api.ErrOrder {
				if n != len(l)-1 {
					t.Fatalf("P49.1: %d: %v: %d", i, l, n)
				}
				return
			}
			if e == api.OK {
				count++
				now, e := Time(p, l)
				extra := (Changes(l) - least) * p.Change
				if e != api.OK || Changes(l) < least || now != time+extra {
					t.Fatalf("P49.4: %d: %v: %d", i, l, now)
				}
			}
			if depth == 0 {
				return
			}
			for _, s := range all(p) {
				search(append(slices.Clone(l), s), depth-1)
			}
		}
		search(nil, []int{6, 5, 5, 10}[i])
		if count == 0 {
			t.Errorf("P49.1: %d: no list", i)
		}
	}
}

func TestOrder(t *testing.T) { // P49.6
	for i, p := range plans() {
		l, _ := Of(p)
		for k := 1; k < len(l); k++ {
			if l[k-1].Kind != Cut || l[k].Kind != Cut {
				continue
			}
			c := slices.Clone(l)
			c[k-1], c[k] = c[k], c[k-1]
			if n, e := Check(p, c); e != api.ErrOrder || n != k-1 {
				t.Errorf("P49.6: %d %d: %d %v", i, k, n, e)
			}
			time, e1 := Time(p, c)
			lines, e2 := Lines(p, c)
			if e1 != api.ErrOrder || e2 != api.ErrOrder || time != 0 || lines != nil {
				t.Errorf("P49.1: %d: %v %v", i, e1, e2)
			}
		}
		if n, e := Time(p, nil); n != 0 || e != api.ErrState {
			t.Errorf("P49.1: %d: %v", i, e)
		}
	}
	// Another order of laps and works that is permitted, too.
	p := plan(2, Pavilion, Pavilion)
	l := []Step{{Change, 1, 0}, {Change, 0, 0}, {Cut, 0, 0}, {Change, 1, 0}, {Cut, 1, 0}, {Change, 0, 0}, {Cut, 0, 1}, {Change, 1, 0}, {Cut, 1, 1}, {Change, 0, 0}}
	if n, e := Check(p, l); n != len(l) || e != api.OK {
		t.Errorf("P49.1: %d %v", n, e)
	}
	if Changes([]Step{{Kind: Change}, {Kind: 7}, {Kind: Change, Work: 9}}) != 2 {
		t.Error("P49.1: Changes")
	}
}

func TestInvalid(t *testing.T) { // P49.1
	for i, f := range []func(p *Plan){
		func(p *Plan) { p.Laps = nil }, func(p *Plan) { *p = plan(7, Crown) }, func(p *Plan) { p.Laps[0].Name = "at" }, func(p *Plan) { p.Laps[1].Name = "lap0" }, func(p *Plan) { p.Laps[0].Grit = 0 }, func(p *Plan) { p.Laps[1].Grit = 200001 }, func(p *Plan) { p.Laps[1].Grit = 600 }, func(p *Plan) { p.Laps[0].Minutes = 0 }, func(p *Plan) { p.Laps[0].Minutes = 101 },
		func(p *Plan) { p.Works = nil }, func(p *Plan) { *p = plan(1, slices.Repeat([]int{Crown}, 21)...) }, func(p *Plan) { p.Works[0].Name = "" }, func(p *Plan) { p.Works[1].Name = "w0" }, func(p *Plan) { p.Works[0].Side = 0 }, func(p *Plan) { p.Works[0].Side = 3 }, func(p *Plan) { p.Works[0].Facets = 0 }, func(p *Plan) { p.Works[0].Facets = 49 },
		func(p *Plan) { p.Change = -1 }, func(p *Plan) { p.Change = 1001 }, func(p *Plan) { p.Transfer = -1 }, func(p *Plan) { p.Transfer = 1001 },
	} {
		p := plan(2, Pavilion, Crown)
		f(&p)
		l, e1 := Of(p)
		n, e2 := Check(p, []Step{{}})
		_, e3 := Time(p, nil)
		_, e4 := Least(p)
		_, e5 := Lines(p, nil)
		_, e6 := Rest(p, nil)
		for k, e := range []api.Errno{e1, e2, e3, e4, e5, e6} {
			if e != api.ErrArg {
				t.Errorf("P49.1: %d %d: %v", i, k, e)
			}
		}
		if Valid(p) || l != nil || n != 0 {
			t.Errorf("P49.1: %d", i)
		}
	}
	p := plan(6, slices.Repeat([]int{Crown}, 20)...)
	p.Change, p.Transfer, p.Laps[5].Grit, p.Laps[0].Minutes, p.Works[0].Facets = 1000, 0, 200000, 100, 48
	if !Valid(p) {
		t.Error("P49.1: limits")
	}
}
