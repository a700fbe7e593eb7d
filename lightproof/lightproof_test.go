package lightproof

import (
	"math/rand"
	"reflect"
	"slices"
	"strings"
	"testing"

	"culet/api"
	"culet/cell"
	"culet/field"
	"culet/interval"
	"culet/plane"
	"culet/refine"
	"culet/solid"
	"culet/trace"
)

const one = interval.Unit

func iv(lo, hi int) api.Interval { return api.Interval{Lo: lo, Hi: hi} }

func num(s string) api.Num {
	x, _ := field.Parse(s)
	return x
}

func ring(h, v, start, step int, depth string) (l []api.Plane) {
	for i := start; i < 24; i += step {
		p, _ := plane.Of(api.Setting{H: h, V: v, Index: i}, num(depth))
		l = append(l, p)
	}
	return l
}

func prepare(t *testing.T, planes []api.Plane) trace.Body {
	t.Helper()
	s, e := solid.Of(planes)
	if e != api.OK {
		t.Fatal(e)
	}
	b, e := trace.Prepare(s, iv(2*one, 2*one))
	if e != api.OK {
		t.Fatal(e)
	}
	return b
}

// roof returns light from straight above, like a mirror.
func roof(t *testing.T) trace.Body {
	top, _ := plane.Of(api.Setting{V: 1}, num("1/3"))
	return prepare(t, slices.Concat([]api.Plane{top}, ring(1, 0, 6, 12, "1"), ring(1, -1, 0, 12, "1")))
}

func cube(t *testing.T) trace.Body {
	s, _ := solid.Block(1)
	return prepare(t, s.Planes)
}

func cells() []cell.Cell {
	r := rand.New(rand.NewSource(1))
	l := []cell.Cell{}
	for i := range 16 {
		w := []int{0, 100, one / 50, one / 6}[i%4]
		x, y, u, v := r.Intn(one/2)-one/4, r.Intn(one/2)-one/4, r.Intn(one/3)-one/6, r.Intn(one/3)-one/6
		l = append(l, cell.Cell{Face: 0, X: iv(x, x+w), Y: iv(y, y+w/2), U: iv(u, u+w/3), V: iv(v, v+w/5)})
	}
	return append(l, cell.Cell{Face: 0, X: iv(-one/2, one/2), Y: iv(0, one/4)}, cell.Cell{Face: 0, X: iv(one/8, one/2), Y: iv(0, one/4)})
}

func copyOf(l []Node) []Node {
	out := slices.Clone(l)
	for i := range out {
		out[i].Faces = slices.Clone(out[i].Faces)
	}
	return out
}

func TestProve(t *testing.T) { // P38.1, P38.2, P38.3, P38.5
	seen := refine.Count{}
	for i, c := range slices.Concat(cells(), cells()) {
		b := roof(t)
		if i >= len(cells()) {
			b = cube(t)
			c.Face = 4
		}
		for _, depth := range []int{0, 2, 6} {
			l, e := Prove(b, c, depth, 6)
			leaves, _ := refine.Leaves(b, c, depth, 6)
			if e != api.OK || !Valid(l) || Check(b, c, l) != api.OK || len(l) != 2*len(leaves)-1 {
				t.Fatalf("P38.2: %d: %v %v", i, e, Check(b, c, l))
			}
			claims, e := Claims(l)
			if e != api.OK || claims != refine.Counts(leaves) {
				t.Fatalf("P38.2: %d: %v", i, claims)
			}
			seen = refine.Count{Returns: seen.Returns + claims.Returns, Leaks: seen.Leaks + claims.Leaks, Unknown: seen.Unknown + claims.Unknown}
			k := 0
			for _, n := range l {
				if n.Axis < 0 {
					if n.Kind != leaves[k].Path.Kind || !slices.Equal(n.Faces, leaves[k].Path.Faces) {
						t.Fatalf("P38.2: %d: leaf %d", i, k)
					}
					k++
				}
			}
			for j := range 16 {
				corner, _ := cell.Corner(c, j)
				p, _ := cell.Trace(b, corner, 20)
				if claims.Unknown == 0 && (claims.Returns == 0 && p.Kind == trace.Returns || claims.Leaks == 0 && p.Kind == trace.Leaks) {
					t.Fatalf("P38.3: %d: corner %d", i, j)
				}
			}
			lines, e := Print(l)
			back, at, e2 := Parse(lines)
			again, _ := Print(back)
			if e != api.OK || e2 != api.OK || at != 0 || !reflect.DeepEqual(lines, again) || len(back) != len(l) || Check(b, c, back) != api.OK {
				t.Fatalf("P38.5: %d: %v %v", i, e, e2)
			}
			for j, n := range back {
				if n.Axis != l[j].Axis || n.Kind != l[j].Kind || !slices.Equal(n.Faces, l[j].Faces) {
					t.Fatalf("P38.5: %d: node %d", i, j)
				}
			}
		}
	}
	if seen.Returns < 5 || seen.Leaks < 5 || seen.Unknown < 5 {
		t.Errorf("one-sided test: %v", seen)
	}
	c := cell.Cell{Face: 4, X: iv(-one/2, one/2), Y: iv(-one/2, one/2)}
	l, _ := Prove(cube(t), c, 5, 5)
	if lines, _ := Print(l); !slices.Equal(lines, []string{"leaks 5"}) {
		t.Errorf("P38.5: example: %v", lines)
	}
}

func TestWrong(t *testing.T) { // P38.4
	b := roof(t)
	wrong := 0
	for i, c := range cells() {
		l, _ := Prove(b, c, 6, 9)
		for k, n := range l {
			if n.Axis >= 0 || n.Kind == trace.Unknown {
				continue
			}
			for _, f := range []func(n *Node){
				func(n *Node) { n.Kind = trace.Returns + trace.Leaks - n.Kind }, func(n *Node) { n.Faces[0]++ }, func(n *Node) { n.Faces = n.Faces[1:] }, func(n *Node) { n.Faces = append(n.Faces, 0) },
			} {
				bad := copyOf(l)
				f(&bad[k])
				wrong++
				if e := Check(b, c, bad); e != api.ErrProof {
					t.Fatalf("P38.4: %d: node %d: %v", i, k, e)
				}
			}
		}
	}
	if wrong < 20 {
		t.Errorf("one-sided test: %d", wrong)
	}
}

func TestJoining(t *testing.T) { // P38.6
	b := roof(t)
	for i, c := range cells() {
		for axis := range 4 {
			lower, upper, ok := halves(c, axis)
			if !ok {
				if l := []Node{{Axis: axis}, {Axis: -1, Kind: 3}, {Axis: -1, Kind: 3}}; Check(b, c, l) != api.ErrProof {
					t.Errorf("P38.6: %d %d: cannot be split", i, axis)
				}
				continue
			}
			p, _ := Prove(b, lower, 4, 8)
			q, _ := Prove(b, upper, 4, 8)
			if e := Check(b, c, slices.Concat([]Node{{Axis: axis}}, p, q)); e != api.OK {
				t.Errorf("P38.6: %d %d: %v", i, axis, e)
			}
			if e := Check(b, c, slices.Concat([]Node{{Axis: axis}}, []Node{{Axis: -1, Kind: 3}}, q)); e != api.OK {
				t.Errorf("P38.6: %d %d: %v", i, axis, e)
			}
		}
	}
}

func TestValid(t *testing.T) { // P38.1
	leaf, split := Node{Axis: -1, Kind: 2, Faces: []int{5}}, Node{Axis: 1}
	chain := []Node{}
	for range 1000 {
		chain = append(chain, split, leaf)
	}
	for i, c := range []struct {
		l    []Node
		want bool
	}{
		{nil, false}, {[]Node{leaf}, true}, {[]Node{leaf, leaf}, false}, {[]Node{split}, false}, {[]Node{split, leaf}, false}, {[]Node{split, leaf, leaf}, true}, {[]Node{split, leaf, leaf, leaf}, false}, {[]Node{leaf, split, leaf}, false}, {[]Node{split, split, leaf, leaf, leaf}, true},
		{[]Node{{Axis: 4}, leaf, leaf}, false}, {[]Node{{Axis: -2, Kind: 1}}, false}, {[]Node{{Axis: 1, Kind: 1}, leaf, leaf}, false}, {[]Node{{Axis: 1, Faces: []int{1}}, leaf, leaf}, false}, {[]Node{{Axis: -1}}, false}, {[]Node{{Axis: -1, Kind: 4}}, false}, {[]Node{{Axis: -1, Kind: 1, Faces: []int{100}}}, false}, {[]Node{{Axis: -1, Kind: 1, Faces: []int{-1}}}, false}, {[]Node{{Axis: -1, Kind: 1, Faces: make([]int, 22)}}, false}, {[]Node{{Axis: -1, Kind: 1, Faces: make([]int, 21)}}, true}, {[]Node{{Axis: -1, Kind: 3}}, true},
		{append(slices.Clone(chain[:1998]), leaf), true}, {append(slices.Clone(chain), leaf), false},
	} {
		_, e1 := Claims(c.l)
		lines, e2 := Print(c.l)
		e3 := Check(trace.Body{}, cell.Cell{}, c.l)
		if Valid(c.l) != c.want || (e1 == api.OK) != c.want || (e2 == api.OK) != c.want || e3 != api.ErrArg || !c.want && (e1 != api.ErrArg || e2 != api.ErrArg || lines != nil) {
			t.Errorf("P38.1: %d: %v %v %v", i, e1, e2, e3)
		}
	}
}

func TestParse(t *testing.T) { // P38.1, P38.5
	l, at, e := Parse([]string{"split x", "split v", "returns 0 99", "unknown", "leaks 7"})
	want := []Node{{Axis: 0}, {Axis: 3}, {Axis: -1, Kind: 1, Faces: []int{0, 99}}, {Axis: -1, Kind: 3}, {Axis: -1, Kind: 2, Faces: []int{7}}}
	if !reflect.DeepEqual(l, want) || at != 0 || e != api.OK {
		t.Errorf("P38.5: %v %d %v", l, at, e)
	}
	for _, s := range []string{"", "split", "split z", "split  x", "Split x", "split x ", "returns ", "returns  1", "returns 100", "returns -1", "returns 01", "returns +1", "returns x", "leak 1", " leaks", "leaks 1 ", "unknown 1,2", "returns 1\n"} {
		if l, at, e := Parse([]string{"leaks", s, "?"}); l != nil || at != 1 || e != api.ErrSyntax {
			t.Errorf("P38.1: %q: %d %v", s, at, e)
		}
	}
	for _, kind := range []string{"returns", "leaks", "unknown"} {
		most, more := kind+strings.Repeat(" 1", 21), kind+strings.Repeat(" 1", 22)
		if l, at, e := Parse([]string{most}); len(l) != 1 || len(l[0].Faces) != 21 || at != 0 || e != api.OK {
			t.Errorf("P38.1: 21 faces: %v %d %v", l, at, e)
		}
		for i, lines := range [][]string{{more}, {most, more}, {"split x", most, more}, {"leaks", "leaks", "leaks", most + " 1 2 3", ""}} {
			if l, at, e := Parse(lines); l != nil || at != i || e != api.ErrSyntax {
				t.Errorf("P38.1: more than 21 faces: %d: %d %v", i, at, e)
			}
		}
	}
	many := slices.Concat(slices.Repeat([]string{"split u"}, MaxNodes/2), slices.Repeat([]string{"leaks 5"}, MaxNodes/2+1))
	for i, lines := range [][]string{nil, {"leaks", "leaks"}, {"split x", "leaks"}, many} {
		if l, at, e := Parse(lines); l != nil || at != 0 || e != api.ErrArg {
			t.Errorf("P38.1: %d: %d %v", i, at, e)
		}
	}
}

func TestErrors(t *testing.T) { // P38.1
	b := cube(t)
	proof := []Node{{Axis: -1, Kind: 2, Faces: []int{5}}}
	good := cell.Cell{Face: 4}
	off := cell.Cell{Face: 4, X: iv(2*one, 2*one)}
	for i, c := range []struct {
		c           cell.Cell
		depth, most int
		prove, ok   api.Errno
	}{{good, 0, 0, api.OK, api.OK}, {cell.Cell{Face: 5}, 99, 99, api.ErrArg, api.ErrArg}, {good, 0, 21, api.ErrRange, api.OK}, {off, 13, 0, api.ErrRange, api.ErrState}, {off, 12, 0, api.ErrState, api.ErrState}} {
		l, e := Prove(b, c.c, c.depth, c.most)
		if e != c.prove || e != api.OK && l != nil || Check(b, c.c, proof) != c.ok {
			t.Errorf("P38.1: %d: %v %v", i, e, Check(b, c.c, proof))
		}
	}
	if e := Check(b, good, nil); e != api.ErrArg {
		t.Errorf("P38.1: %v", e)
	}
	// Nothing is decided without reflections, so that there are too many leaves.
	wide := cell.Cell{Face: 0, X: iv(-one/2, one/2), Y: iv(-one/2, one/2), U: iv(-one/4, one/4), V: iv(-one/4, one/4)}
	if l, e := Prove(roof(t), wide, 12, 0); l != nil || e != api.ErrLimit {
		t.Errorf("P38.1: %v %d", e, len(l))
	}
	far := cell.Cell{Face: 0, X: iv(60*one, 60*one), Y: iv(60*one, 60*one)}
	slanted := prepare(t, slices.Concat(ring(1, 1, 0, 6, "1"), ring(1, -1, 0, 6, "1")))
	if e := Check(slanted, far, proof); e != api.ErrLimit {
		t.Errorf("P38.1: %v", e)
	}
}
