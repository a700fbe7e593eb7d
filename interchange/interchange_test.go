package interchange

import (
	"bytes"
	"reflect"
	"slices"
	"strings"
	"testing"

	"culet/api"
	"culet/clone"
	"culet/field"
	"culet/format"
	"culet/library"
	"culet/meetpoint"
	"culet/resolve"
	"culet/syntax"
	"culet/vector"
)

func num(s string) api.Num {
	x, _ := field.Parse(s)
	return x
}

func parse(t *testing.T, text string) api.Design {
	t.Helper()
	d, at, e := syntax.Parse(text)
	if e != api.OK {
		t.Fatal(text, at, e)
	}
	return d
}

func texts() []string {
	return []string{
		"design pyramid order 4\ntier B angle 0/-1 at 0 depth 0\ntier C angle 1/1 at 0 depth 1\n",
		`design brilliant order 8 mirror
tier P angle 1/-1 at 0 depth 2
tier G angle 1/0 at 0 edge P:0 P:3 height "-1/3"
tier M angle 1/1 at 0 depth 2
tier S angle 3/4 at 1 meet M:0 M:3 G:0
tier T angle 0/1 at 0 edge S:1 S:2 height "9/10"
`,
		"design x order 6\ntier a angle 999/-1000 at 0 depth \"12345678901234567890r2\"\ntier t angle 0/1 at 0 depth 3\n",
	}
}

func stones(t *testing.T) (l []api.Resolved) {
	for _, text := range texts() {
		r, _, e := resolve.Resolve(parse(t, text))
		if e != api.OK {
			t.Fatal(e)
		}
		l = append(l, r)
	}
	odd := api.Resolved{Solid: api.Solid{Verts: []api.Vec{vector.Of(1, 2, 3), vector.Of(0, -1<<40, 0)}}}
	return append(l, odd, api.Resolved{})
}

func same(a, b api.Resolved) bool {
	return slices.Equal(a.Facets, b.Facets) && slices.Equal(a.Solid.Planes, b.Solid.Planes) && slices.Equal(a.Solid.Verts, b.Solid.Verts) && slices.EqualFunc(a.Solid.Faces, b.Solid.Faces, func(f, g api.Face) bool {
		return f.Plane == g.Plane && slices.Equal(f.Loop, g.Loop)
	})
}

func TestDesigns(t *testing.T) { // P26.1, P26.2, W5
	for _, text := range append(texts(), "design x order 1\n") {
		d := parse(t, text)
		b, e := EncodeDesign(d)
		if e != api.OK || b[0] != 'D' || string(b[1:len(b)-4]) != text {
			t.Fatalf("P26.2: %q: %v", b, e)
		}
		sum := library.Sum("D" + text)
		if !slices.Equal(b[len(b)-4:], []byte{byte(sum >> 24), byte(sum >> 16), byte(sum >> 8), byte(sum)}) {
			t.Errorf("P26.1: sum of %q", text)
		}
		back, e := DecodeDesign(b)
		again, _ := EncodeDesign(back)
		kind, e2 := Check(b)
		if e != api.OK || e2 != api.OK || kind != 'D' || !format.Equal(back, d) || !bytes.Equal(again, b) {
			t.Errorf("P26.2: %q: %v", text, e)
		}
		if r, e := DecodeStone(b); e != api.ErrState || !same(r, api.Resolved{}) {
			t.Errorf("P26.4: %v", e)
		}
	}
}

func TestStones(t *testing.T) { // P26.2, P26.4, W5
	for i, r := range stones(t) {
		b, e := EncodeStone(r)
		back, e2 := DecodeStone(b)
		again, _ := EncodeStone(back)
		kind, e3 := Check(b)
		if !Can(r) || e != api.OK || e2 != api.OK || e3 != api.OK || kind != 'S' || b[0] != 'S' || !same(back, r) || !bytes.Equal(again, b) {
			t.Errorf("P26.2: %d: %v %v", i, e, e2)
		}
		if d, e := DecodeDesign(b); e != api.ErrState || d.Name != "" {
			t.Errorf("P26.4: %d: %v", i, e)
		}
	}
}

func TestBytes(t *testing.T) { // P26.1
	f := api.Facet{Tier: "ab", At: api.Setting{H: 300, V: -7, Index: 5}, Depth: num("-1/300+r6")}
	r := api.Resolved{Facets: []api.Facet{f}}
	p, _ := meetpoint.Plane(f)
	r.Solid.Planes = []api.Plane{p}
	r.Solid.Verts = []api.Vec{vector.Of(0, 1, -256)}
	r.Solid.Faces = []api.Face{{Plane: 0, Loop: []int{0, 0}}}
	want := []byte{'S', 1, 2, 'a', 'b', 0xac, 2, 13, 5}
	want = append(want, 3, 1, 0, 0, 4, 1, 44, 4, 1, 44)
	want = append(want, 1, 0, 0, 0, 0, 2, 1, 2, 1, 0, 0, 0, 2, 1, 5, 1, 0, 0, 0, 0, 2, 1)
	want = append(want, 1, 0, 2, 0, 0)
	b, e := EncodeStone(r)
	if e != api.OK || !bytes.Equal(b[:len(b)-4], want) {
		t.Errorf("P26.1: % x\n% x %v", b, want, e)
	}
}

func TestChanges(t *testing.T) { // P26.3
	records := [][]byte{}
	for _, text := range texts()[:2] {
		b, _ := EncodeDesign(parse(t, text))
		records = append(records, b)
	}
	for _, r := range stones(t)[:2] {
		b, _ := EncodeStone(r)
		records = append(records, b)
	}
	for i, b := range records {
		for k := range b {
			for _, by := range []byte{1, 0x80, 0xff, 'D' ^ 'S'} {
				c := slices.Clone(b)
				c[k] ^= by
				_, e1 := DecodeDesign(c)
				_, e2 := DecodeStone(c)
				if e1 == api.OK || e2 == api.OK {
					t.Fatalf("P26.3: %d: byte %d", i, k)
				}
			}
		}
		short := b[:len(b)-1]
		_, e1 := DecodeDesign(short)
		_, e2 := DecodeStone(short)
		if e1 == api.OK || e2 == api.OK {
			t.Errorf("P26.3: %d: last byte", i)
		}
	}
}

func TestSyntax(t *testing.T) { // P26.1
	for i, b := range [][]byte{nil, []byte("D"), []byte("D\x00\x00\x00"), []byte("X\x00\x00\x00\x00\x00"), []byte("Sabc")} {
		k, e := Check(b)
		_, e1 := DecodeDesign(b)
		_, e2 := DecodeStone(b)
		if k != 0 || e != api.ErrSyntax || e1 != api.ErrSyntax || e2 != api.ErrSyntax {
			t.Errorf("P26.1: %d: %v", i, e)
		}
	}
	if k, e := Check([]byte("D\x00\x00\x00\x00")); k != 0 || e != api.ErrSum {
		t.Errorf("P26.1: %v", e)
	}
	for _, text := range []string{"", "design x order 1", "design x order  1\n", "design x order 1\n\n", "design", "design x order 1 # c\n", "design x order 1\ntier a angle 1/1 at 0 depth \"2/4\"\n", strings.Repeat(" ", 20001)} {
		b := sealed('D', []byte(text))
		if d, e := DecodeDesign(b); e != api.ErrSyntax || d.Name != "" {
			t.Errorf("P26.1: %q: %v", text, e)
		}
		if _, e := Check(b); e != api.OK {
			t.Errorf("P26.1: %q: %v", text, e)
		}
	}
	good := sealed('S', []byte{0, 0, 0})
	if r, e := DecodeStone(good); e != api.OK || len(r.Facets) != 0 {
		t.Errorf("P26.1: %v", e)
	}
	num1 := []byte{2, 1, 0, 0, 0, 2, 1}
	for i, c := range [][]byte{
		{}, {0}, {0, 0}, {0, 0, 0, 0}, {0x80, 0, 0, 0}, {0, 0x80, 0x80, 0x80, 0x80, 0}, {95}, {0, 1}, {0, 0xc9, 1}, {0, 0, 101}, {0, 0, 1, 0, 0}, {0xff, 0xff, 0xff, 0x7f, 0, 0},
		slices.Concat([]byte{0, 1}, num1, num1, []byte{2, 0, 0, 0, 0, 2, 1}, []byte{0}),
		slices.Concat([]byte{0, 1}, num1, num1, []byte{2, 2, 0, 0, 0, 2, 2}, []byte{0}),
		slices.Concat([]byte{0, 1}, num1, num1, []byte{1, 0, 0, 0, 2, 1}, []byte{0}),
		slices.Concat([]byte{1, 1, 'a', 2, 4, 0}, num1, []byte{0, 0}),
		slices.Concat([]byte{1, 2, 'a', 't', 1, 2, 0}, num1, []byte{0, 0}),
		slices.Concat([]byte{1, 1, 'a', 1, 2, 24}, num1, []byte{0, 0}),
		slices.Concat([]byte{1, 1, 'a', 1, 2, 0}, num1, []byte{0, 1, 0, 1, 0}),
		slices.Concat([]byte{1, 1, 'a', 1, 2, 0}, num1, []byte{0, 1, 1, 0}),
	} {
		if r, e := DecodeStone(sealed('S', c)); e != api.ErrSyntax || !same(r, api.Resolved{}) {
			t.Errorf("P26.1: content %d: %v", i, e)
		}
	}
	if r, e := DecodeStone(sealed('S', slices.Concat([]byte{1, 1, 'a', 1, 2, 0}, num1, []byte{0, 1, 0, 0}))); e != api.OK || len(r.Solid.Faces) != 1 {
		t.Errorf("P26.1: %v", e)
	}
}

func TestCan(t *testing.T) { // P26.1
	long := api.Int{Mag: strings.Repeat("\x01", 1001)}
	longNum, _ := field.Make([4]api.Int{long}, api.Int{Mag: "\x01"})
	for i, change := range []func(r *api.Resolved){
		func(r *api.Resolved) { r.Facets[0].Tier = "at" }, func(r *api.Resolved) { r.Facets[0].Tier = "" }, func(r *api.Resolved) { r.Facets[0].At.H = 2 }, func(r *api.Resolved) { r.Facets[0].Depth = num("9") }, func(r *api.Resolved) { r.Facets[0].Depth = api.Num{} },
		func(r *api.Resolved) { r.Solid.Planes = r.Solid.Planes[1:] }, func(r *api.Resolved) { r.Solid.Planes[0].D = num("9") }, func(r *api.Resolved) { r.Solid.Verts[0] = api.Vec{} }, func(r *api.Resolved) { r.Solid.Verts = make([]api.Vec, 201) },
		func(r *api.Resolved) { r.Solid.Verts = slices.Repeat(r.Solid.Verts[:1], 201) }, func(r *api.Resolved) { r.Solid.Faces = slices.Repeat(r.Solid.Faces[:1], 101) }, func(r *api.Resolved) { r.Solid.Faces[0].Plane = -1 }, func(r *api.Resolved) { r.Solid.Faces[0].Plane = len(r.Facets) },
		func(r *api.Resolved) { r.Solid.Faces[0].Loop[0] = -1 }, func(r *api.Resolved) { r.Solid.Faces[0].Loop[0] = len(r.Solid.Verts) }, func(r *api.Resolved) { r.Solid.Faces[0].Loop = make([]int, 201) },
		func(r *api.Resolved) { r.Solid.Verts[0].X = longNum }, func(r *api.Resolved) { r.Facets[0].Depth = longNum; r.Solid.Planes[0].D = longNum },
		func(r *api.Resolved) {
			r.Facets = slices.Repeat(r.Facets[:1], 95)
			r.Solid.Planes = slices.Repeat(r.Solid.Planes[:1], 95)
		},
	} {
		s := stones(t)[0]
		r := api.Resolved{Facets: slices.Clone(s.Facets), Solid: clone.Solid(s.Solid)}
		change(&r)
		b, e := EncodeStone(r)
		if Can(r) || e != api.ErrArg || b != nil {
			t.Errorf("P26.1: %d: %v", i, e)
		}
	}
	s := stones(t)[0]
	r := api.Resolved{Facets: slices.Clone(s.Facets), Solid: clone.Solid(s.Solid)}
	fits, _ := field.Make([4]api.Int{{Mag: long.Mag[:1000]}}, api.Int{Mag: "\x01"})
	r.Solid.Verts = slices.Repeat(r.Solid.Verts[:1], 200)
	r.Solid.Verts[0].X = fits
	r.Solid.Faces[0].Loop = make([]int, 200)
	r.Solid.Faces = slices.Repeat(r.Solid.Faces, 20)
	b, e := EncodeStone(r)
	back, e2 := DecodeStone(b)
	if e != api.OK || e2 != api.OK || !same(back, r) {
		t.Errorf("P26.1: limits: %v %v", e, e2)
	}
	r.Facets = slices.Repeat(r.Facets[:1], 94)
	r.Solid.Planes = slices.Repeat(r.Solid.Planes[:1], 94)
	if !Can(r) {
		t.Error("P26.1: 94 facets")
	}
	bad := parse(t, texts()[0])
	bad.Name = "at"
	if b, e := EncodeDesign(bad); e != api.ErrArg || b != nil {
		t.Errorf("P26.1: %v", e)
	}
	bad = parse(t, texts()[0])
	x := num(strings.Repeat("9", 60))
	bad.Tiers[0].Fix.Depth = field.Mul(x, x)
	if b, e := EncodeDesign(bad); e != api.ErrLimit || b != nil {
		t.Errorf("P26.1: %v", e)
	}
	if !reflect.DeepEqual(stones(t)[4], api.Resolved{}) {
		t.Error("stones")
	}
}
