package whole

import (
	"math"
	"math/rand"
	"reflect"
	"slices"
	"strings"
	"testing"

	"culet/api"
	"culet/brightness"
	"culet/calibrate"
	"culet/cell"
	"culet/certificate"
	"culet/clone"
	"culet/console"
	"culet/crystal"
	"culet/dispersion"
	"culet/field"
	"culet/flaw"
	"culet/fresnel"
	"culet/interchange"
	"culet/interval"
	"culet/job"
	"culet/library"
	"culet/lightproof"
	"culet/multiplan"
	"culet/optimize"
	"culet/parcel"
	"culet/plan"
	"culet/proportions"
	"culet/resolve"
	"culet/saw"
	"culet/schedule"
	"culet/solid"
	"culet/steps"
	"culet/symmetry"
	"culet/syntax"
	"culet/tariff"
	"culet/trace"
	"culet/transpose"
	"culet/vector"
	"culet/window"
	"culet/yields"
)

// maker makes arguments of any type: many of them are valid, many are almost valid, and some are anything.
type maker struct {
	r     *rand.Rand
	pools map[reflect.Type][]any
}

func samples() []string {
	return []string{"", "a", "b", "ruby", "at", "tier", "p:0", "1", "-0", "1/2r2", "(1, 2, 3)", "r2-r6", strings.Repeat("x", 31), "quartz 2650 1544 70", "ruby: 0@100, 500@300", "leaks 5", "split x", "volume", "design x order 4", `design x order 4 tier B angle 0/-1 at 0 depth 0 tier C angle 1/1 at 0 depth 1`, "depth 5", "meet a:0 b:0 c:0", `"`, "\xff\n", "same x", "weight 5", "show"}
}

func newMaker() *maker {
	m := &maker{rand.New(rand.NewSource(1)), map[reflect.Type][]any{}}
	add := func(l ...any) {
		for _, x := range l {
			t := reflect.TypeOf(x)
			m.pools[t] = append(m.pools[t], x)
		}
	}
	for _, n := range []int{0, 1, -1, 2, 3, 4, 5, 6, 7, 12, 20, 23, 24, 25, 96, 100, 101, 1000, 1001, 1544, 2650, 1 << 20, 1 << 23, 1 << 24, 1<<30 + 1, math.MaxInt, math.MinInt} {
		add(n)
	}
	for _, s := range samples() {
		add(s)
		x, _ := field.Parse(s)
		v, _ := vector.Parse(s)
		d, _, _ := syntax.Parse(s)
		f, _, _ := syntax.Fix(s)
		add(x, v, d, f)
	}
	add(num("1"), num("2"), num("1/3"), num("-r3"), vector.Of(0, 0, 1), vector.Of(1, 0, 0), vector.Of(0, 0, 0), vector.Of(1, -2, 3))
	one := interval.Unit
	add(api.Interval{Lo: one, Hi: one}, api.Interval{Lo: 2 * one, Hi: 2 * one}, api.Interval{}, api.Interval{Lo: -one / 4, Hi: one / 4}, api.Interval{Lo: 1})
	block, _ := solid.Block(1)
	shifted, _ := solid.Shift(block, vector.Of(1, 1, 1))
	add(block, shifted, api.Solid{})
	for _, p := range block.Planes {
		add(p)
	}
	d, _, _ := syntax.Parse("design cube order 4 tier t angle 0/1 at 0 depth 1 tier b angle 0/-1 at 0 depth 1 tier g angle 1/0 at 0 depth 1")
	r, _, _ := resolve.Resolve(d)
	body, _ := trace.Prepare(block, api.Interval{Lo: 2 * one, Hi: 2 * one})
	add(d, r, r.Solid, body, cell.Cell{Face: 4}, cell.Cell{Face: 4, X: api.Interval{Lo: 0, Hi: one / 2}})
	for _, f := range r.Facets {
		add(f, f.At)
	}
	m.addLists(add, block)
	m.addShop(add, block)
	add(tariff.Tariff{Material: "ruby", Classes: []tariff.Class{{From: 0, Price: 100}}}, api.Material{Name: "ruby", Density: 4000, Index: 1768, Hardness: 90}, api.Piece{ID: "a", Material: "ruby", Weight: 500, Count: 2})
	return m
}

// addLists adds lists and values of layers that belong together.
func (m *maker) addLists(add func(l ...any), block api.Solid) {
	square := []api.Vec{vector.Of(0, 0, 0), vector.Of(1, 0, 0), vector.Of(1, 1, 0), vector.Of(0, 1, 0)}
	add(square, block.Planes, append(slices.Clone(block.Planes), api.Plane{N: vector.Of(1, 1, 1), D: num("2")}))
	add([]api.Plane{{N: vector.Of(1, 1, 1), D: num("2")}}, []api.Plane{})
	add(window.Map{{1, 2}, {2, 3}}, window.Map{{0, 2, 2}}, []dispersion.Entry{{Wave: 1, Index: 1}}, []dispersion.Entry{{Wave: 100, Index: 200000}, {Wave: 3000, Index: 180000}})
	leaf := lightproof.Node{Axis: -1, Kind: 2, Faces: []int{5}}
	add([]lightproof.Node{leaf}, []lightproof.Node{{Axis: 0}, leaf, leaf}, brightness.Grid{Half: interval.Unit, Cone: 0, Steps: 2, Turns: 1}, brightness.Grid{Half: interval.Unit, Cone: 5, Steps: 3, Turns: 2})
	add(transpose.Stretch{Part: 1, Z: num("0"), N: 2, D: 1}, optimize.Choice{Tier: "t", H: 0, V: 1}, optimize.Choice{Tier: "g", H: 4, V: 3})
	p, _ := proportions.Of(block)
	add(p, fresnel.Surface{Before: api.Interval{Hi: 5}, After: api.Interval{Lo: 9, Hi: 9}, From: api.Interval{Lo: interval.Unit, Hi: interval.Unit}, To: api.Interval{Lo: interval.Unit, Hi: interval.Unit}})
	for _, x := range m.pools[reflect.TypeFor[api.Design]()] {
		d := x.(api.Design)
		c, _, _ := certificate.Of(d)
		l, e := library.Put(nil, d, "")
		b, _ := interchange.EncodeDesign(d)
		r, _, _ := resolve.Resolve(d)
		o, _ := interchange.EncodeStone(r)
		add(c, b, o, r.Facets)
		if e == api.OK {
			l, _ = library.Tag(l, d.Name, "a")
			add(l)
		}
	}
}

// addShop adds values of planning and of the workshop.
func (m *maker) addShop(add func(l ...any), block api.Solid) {
	prices := tariff.Tariff{Material: "ruby", Classes: []tariff.Class{{From: 0, Price: 100}, {From: 500, Price: 300}}}
	big, _ := solid.Block(3)
	shift := []api.Vec{vector.Of(0, 0, 0), vector.Of(1, 0, 0)}
	add(prices, crystal.Crystal{Name: "a", Material: "ruby", Planes: block.Planes}, flaw.Flaw{Name: "a", Planes: block.Planes}, multiplan.Item{Solid: block, Value: 5})
	add(plan.Problem{Crystal: big, Flaws: []api.Solid{block}, Designs: []api.Solid{block}, Density: 1000, Tariff: prices, Motions: []api.Motion{{}}, Scales: [][2]int{{1, 1}, {1, 2}}, Shifts: append(shift, vector.Of(2, 0, 0))}, plan.Proof{Best: 2, Reasons: []plan.Reason{{Candidate: 0, Flaw: 0, Point: vector.Of(0, 0, 0)}}})
	add(api.Stone{N: 1, D: 2, Shift: shift[1]}, []saw.Node{{Plane: block.Planes[0], Below: -1, Above: -2}}, []api.Solid{block, big}, []api.Solid{block})
	work := steps.Plan{Laps: []steps.Lap{{Name: "l", Grit: 600, Minutes: 2}}, Works: []steps.Work{{Name: "w", Side: steps.Crown, Facets: 8}}}
	all, _ := steps.Of(work)
	add(work, all, []steps.Step{{Kind: steps.Change}}, calibrate.Reading{Index: 3, Off: 5})
	pieces := []api.Piece{{ID: "a", Material: "ruby", Weight: 500, Count: 2}, {ID: "b", Material: "ruby", Weight: 300, Count: 1}}
	book := []parcel.Entry{{Kind: parcel.In, Piece: pieces[0]}, {Kind: parcel.Split, ID: "a", To: "b", Weight: 200, Count: 1}, {Kind: parcel.Join, ID: "b", To: "a"}, {Kind: parcel.Loss, ID: "a", Weight: 1}, {Kind: parcel.Out, ID: "a"}}
	add(pieces, book, book[:1])
	for _, x := range book {
		add(x)
	}
	j := job.Job{ID: "j", Piece: "a", Design: "d", Due: 5, Price: 9}
	events := []job.Event{{Kind: job.Accept, Day: 1, Job: j}, {Kind: job.Start, Day: 2, ID: "j"}, {Kind: job.Finish, Day: 3, ID: "j", Weight: 100}, {Kind: job.Deliver, Day: 9, ID: "j"}, {Kind: job.Cancel, Day: 3, ID: "j"}}
	for k, x := range events {
		s, _, e := job.Of(pieces, events[:k])
		if e == api.OK {
			add(s)
		}
		add(x)
	}
	add(events[:4], schedule.Problem{Machines: 2, Tasks: []schedule.Task{{ID: "a", Minutes: 5}, {ID: "b", Minutes: 3, After: []int{0}}}}, []schedule.Slot{{Machine: 0, Start: 0}, {Machine: 1, Start: 5}}, []int{0, 1}, []int{1, 0}, []int{0})
	add(yields.Record{Design: "a", Material: "b", Rough: 10, Cut: 5}, yields.Record{Design: "b", Material: "b", Rough: 10, Cut: 3}, console.Space{}, symmetry.Similarity{Scale: num("2"), Shift: num("0")})
	s, _ := console.Do(console.Space{}, "design x order 4 tier a angle 0/1 at 0 depth 1")
	add(s)
}

func (m *maker) value(t reflect.Type) reflect.Value {
	if pool := m.pools[t]; len(pool) > 0 && m.r.Intn(8) > 0 {
		return deepCopy(reflect.ValueOf(pool[m.r.Intn(len(pool))]))
	}
	v := reflect.New(t).Elem()
	switch t.Kind() {
	case reflect.Int:
		v.SetInt(int64(m.r.Intn(30) - 5))
	case reflect.Uint8:
		v.SetUint(uint64(m.r.Intn(256)))
	case reflect.Bool:
		v.SetBool(m.r.Intn(2) == 0)
	case reflect.String:
		v.SetString(samples()[m.r.Intn(len(samples()))])
	case reflect.Struct:
		for i := range t.NumField() {
			v.Field(i).Set(m.value(t.Field(i).Type))
		}
	case reflect.Array:
		for i := range t.Len() {
			v.Index(i).Set(m.value(t.Elem()))
		}
	case reflect.Slice:
		n := m.r.Intn(5)
		if n > 0 {
			v.Set(reflect.MakeSlice(t, n-1, n+2))
		}
		for i := range v.Len() {
			v.Index(i).Set(m.value(t.Elem()))
		}
	default:
		panic(t.String())
	}
	return v
}

// deepCopy returns a copy that shares no slice with a value.
func deepCopy(v reflect.Value) reflect.Value {
	out := reflect.New(v.Type()).Elem()
	out.Set(v)
	switch v.Kind() {
	case reflect.Struct:
		for i := range v.NumField() {
			out.Field(i).Set(deepCopy(v.Field(i)))
		}
	case reflect.Array, reflect.Slice:
		if v.Kind() == reflect.Slice && !v.IsNil() {
			out.Set(reflect.MakeSlice(v.Type(), v.Len(), v.Len()))
		}
		for i := range v.Len() {
			out.Index(i).Set(deepCopy(v.Index(i)))
		}
	}
	return out
}

// scribble changes everything that can be reached over slices of a result.
func scribble(v reflect.Value) {
	switch v.Kind() {
	case reflect.Struct:
		for i := range v.NumField() {
			scribble(v.Field(i))
		}
	case reflect.Array, reflect.Slice:
		for i := range v.Len() {
			scribble(v.Index(i))
			if v.Kind() == reflect.Slice {
				v.Index(i).SetZero()
			}
		}
		if v.Kind() == reflect.Slice && v.Cap() > v.Len() {
			rest := v.Slice(v.Len(), v.Cap())
			for i := range rest.Len() {
				rest.Index(i).SetZero()
			}
		}
	}
}

func same(a, b []reflect.Value) bool {
	for i := range a {
		if !reflect.DeepEqual(a[i].Interface(), b[i].Interface()) {
			return false
		}
	}
	return true
}

func copies(l []reflect.Value) (out []reflect.Value) {
	for _, v := range l {
		out = append(out, deepCopy(v))
	}
	return out
}

// empty reports whether a value is zero, or a list without elements.
func empty(v reflect.Value) bool {
	if v.Kind() == reflect.Slice {
		return v.Len() == 0
	}
	return v.IsZero()
}

// placed has the functions that return a place together with an error.
func placed(name string) bool {
	return slices.Contains([]string{"lexer.Lex", "syntax.Parse", "syntax.Fix", "tier.Check", "certificate.Of", "diagram.Rows", "diagram.Lines", "drawing.Plan", "equivalence.Design", "transpose.Design", "lightproof.Parse", "gemstone.Parse", "crystal.Measured", "steps.Check", "parcel.Of", "job.Of"}, name) || strings.HasPrefix(name, "resolve.")
}

func TestArguments(t *testing.T) { // P1: no function panics, changes its arguments, or keeps them
	m := newMaker()
	results := map[string][2]int{}
	for _, f := range functions() {
		v := reflect.ValueOf(f.f)
		for range 90 {
			args := []reflect.Value{}
			for i := range v.Type().NumIn() {
				args = append(args, m.value(v.Type().In(i)))
			}
			check(t, f.name, v, args, results)
		}
	}
	onlyErrors := []string{}
	for name, n := range results {
		if n[0] == 0 {
			onlyErrors = append(onlyErrors, name)
		}
	}
	slices.Sort(onlyErrors)
	t.Log("only errors:", onlyErrors)
}

func check(t *testing.T, name string, f reflect.Value, args []reflect.Value, results map[string][2]int) {
	t.Helper()
	before := copies(args)
	defer func() {
		if p := recover(); p != nil {
			t.Fatalf("%s panics: %v: %v", name, p, before)
		}
	}()
	out := f.Call(args)
	if !same(args, before) {
		t.Fatalf("%s changes its arguments: %v", name, before)
	}
	kept := copies(out)
	for _, v := range out {
		scribble(v)
	}
	if !same(args, before) {
		t.Fatalf("%s shares memory with its arguments: %v", name, before)
	}
	again := f.Call(args)
	if !same(kept, again) {
		t.Fatalf("%s has two results for %v", name, before)
	}
	last := kept[len(kept)-1]
	e, isError := last.Interface().(api.Errno)
	if !isError || e == api.OK {
		n := results[name]
		results[name] = [2]int{n[0] + 1, n[1]}
		return
	}
	n := results[name]
	results[name] = [2]int{n[0], n[1] + 1}
	for _, v := range kept[:len(kept)-1] {
		if !empty(v) && !(v.Kind() == reflect.Int && placed(name)) {
			t.Fatalf("%s returns %v with error %d for %v", name, v, e, before)
		}
	}
}

func TestCopies(t *testing.T) {
	d := api.Design{Tiers: []api.Tier{{Indices: []int{1}, Fix: api.Fix{Refs: []api.Ref{{Tier: "a"}}}}}}
	c := clone.Design(d)
	c.Tiers[0].Indices[0], c.Tiers[0].Fix.Refs[0].Tier = 2, "b"
	s := api.Solid{Faces: []api.Face{{Loop: []int{1}}}}
	o := clone.Solid(s)
	o.Faces[0].Loop[0] = 2
	if d.Tiers[0].Indices[0] != 1 || d.Tiers[0].Fix.Refs[0].Tier != "a" || s.Faces[0].Loop[0] != 1 {
		t.Error("clone shares memory")
	}
}
