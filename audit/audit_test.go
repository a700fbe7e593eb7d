package audit

import (
	"math/rand"
	"slices"
	"strconv"
	"testing"

	"culet/api"
	"culet/clone"
	"culet/field"
	"culet/measure"
	"culet/parcel"
	"culet/plane"
	"culet/separate"
	"culet/solid"
	"culet/vector"
)

func num(s string) api.Num {
	x, _ := field.Parse(s)
	return x
}

func vec(s string) api.Vec {
	v, _ := vector.Parse(s)
	return v
}

func of(n, d string) api.Plane { return api.Plane{N: vec(n), D: num(d)} }

func ring(h, v, start, step int, depth string) (l []api.Plane) {
	for i := start; i < 24; i += step {
		p, _ := plane.Of(api.Setting{H: h, V: v, Index: i}, num(depth))
		l = append(l, p)
	}
	return l
}

func block(at string) api.Solid {
	s, _ := solid.Block(1)
	s, _ = solid.Shift(s, vec(at))
	return s
}

// bar is long along the x axis or the y axis; two crossed ones are apart only by the directions of their edges.
func bar(turn int, at string) api.Solid {
	s, e := solid.Of([]api.Plane{of("(0, 1, 1)", "1"), of("(0, 1, -1)", "1"), of("(0, -1, 1)", "1"), of("(0, -1, -1)", "1"), of("(1, 0, 0)", "40"), of("(-1, 0, 0)", "40")})
	if e != api.OK {
		panic(e)
	}
	s, _ = solid.Move(s, api.Motion{Turn: turn})
	s, _ = solid.Shift(s, vec(at))
	return s
}

func solids(t *testing.T) (l []api.Solid) {
	b, _ := solid.Block(1)
	for _, planes := range [][]api.Plane{
		b.Planes,
		append(slices.Clone(b.Planes), of("(1, 1, 1)", "2"), of("(1, 1, 1)", "5"), b.Planes[0], of("(2, 0, 0)", "2")),
		append(slices.Clone(b.Planes), of("(1, 1, 1)", "3"), of("(1, 1, 0)", "2")),
		append(ring(1, 1, 0, 8, "1"), of("(0, 0, -1)", "0")),
		slices.Concat(ring(1, 1, 0, 6, "1"), ring(2, -1, 1, 4, "1/3r2")),
	} {
		s, e := solid.Of(planes)
		if e != api.OK {
			t.Fatal(e)
		}
		l = append(l, s)
	}
	return l
}

// spoiled returns records that are a little wrong.
func spoiled(s api.Solid) (l []api.Solid) {
	change := func(f func(s *api.Solid)) {
		c := clone.Solid(s)
		f(&c)
		l = append(l, c)
	}
	last := len(s.Faces) - 1
	change(func(s *api.Solid) { *s = api.Solid{} })
	change(func(s *api.Solid) { s.Faces = s.Faces[:last] })
	change(func(s *api.Solid) { s.Faces = s.Faces[1:] })
	change(func(s *api.Solid) { s.Faces = nil })
	change(func(s *api.Solid) { s.Verts = s.Verts[1:] })
	change(func(s *api.Solid) { s.Planes = s.Planes[1:] })
	change(func(s *api.Solid) { s.Planes[0] = api.Plane{} })
	change(func(s *api.Solid) { s.Planes[0].D = field.Add(s.Planes[0].D, num("1")) })
	change(func(s *api.Solid) { s.Planes[0].D = field.Sub(s.Planes[0].D, num("1/9")) })
	change(func(s *api.Solid) { s.Planes = append(s.Planes, of("(1, 2, 3)", "1/9")) })
	change(func(s *api.Solid) { s.Planes = slices.Repeat(s.Planes, 100) })
	change(func(s *api.Solid) { s.Verts[0] = api.Vec{} })
	change(func(s *api.Solid) { s.Verts[0].X = field.Add(s.Verts[0].X, num("1/9")) })
	change(func(s *api.Solid) { s.Verts[0], s.Verts[1] = s.Verts[1], s.Verts[0] })
	change(func(s *api.Solid) { s.Verts = append(s.Verts, s.Verts[len(s.Verts)-1]) })
	change(func(s *api.Solid) { s.Verts = append(s.Verts, vec("(900, 0, 0)")) })
	change(func(s *api.Solid) { s.Faces[0], s.Faces[1] = s.Faces[1], s.Faces[0] })
	change(func(s *api.Solid) { s.Faces[0].Plane = -1 })
	change(func(s *api.Solid) { s.Faces[last].Plane = len(s.Planes) })
	change(func(s *api.Solid) { s.Faces[1] = s.Faces[0] })
	change(func(s *api.Solid) { s.Faces = append(s.Faces[:1:1], s.Faces...) })
	change(func(s *api.Solid) { s.Faces[0].Loop[0] = 99 })
	change(func(s *api.Solid) { s.Faces[0].Loop[1] = -1 })
	change(func(s *api.Solid) { s.Faces[0].Loop = nil })
	change(func(s *api.Solid) { s.Faces[0].Loop = s.Faces[0].Loop[1:] })
	change(func(s *api.Solid) { slices.Reverse(s.Faces[0].Loop[1:]) })
	change(func(s *api.Solid) { s.Faces[0].Loop = append(s.Faces[0].Loop[1:], s.Faces[0].Loop[0]) })
	change(func(s *api.Solid) { s.Faces[0].Loop = append(s.Faces[0].Loop, s.Faces[0].Loop[1]) })
	return l
}

func TestSolids(t *testing.T) { // P57.1, P57.2, W13
	for i, s := range solids(t) {
		if Solid(s) != api.OK {
			t.Errorf("P57.2: %d", i)
		}
		for k, bad := range spoiled(s) {
			e := Solid(bad)
			if (e == api.OK) != solid.Valid(bad) || e != api.OK && e != api.ErrProof {
				t.Errorf("P57.2: %d %d: %v, valid %v", i, k, e, solid.Valid(bad))
			}
			if k < 4 && e == api.OK {
				t.Errorf("P57.2: %d %d", i, k)
			}
		}
	}
	full, _ := solid.Of(slices.Repeat(block("(0, 0, 0)").Planes, 17)[:100])
	if Solid(full) != api.OK || len(full.Planes) != 100 {
		t.Error("P57.2: 100 planes")
	}
	// Vertices in another order, with all loops changed accordingly.
	turned := clone.Solid(block("(0, 0, 0)"))
	turned.Verts[0], turned.Verts[1] = turned.Verts[1], turned.Verts[0]
	for i := range turned.Faces {
		loop := turned.Faces[i].Loop
		for k, v := range loop {
			if v < 2 {
				loop[k] = 1 - v
			}
		}
		least := slices.Index(loop, slices.Min(loop))
		turned.Faces[i].Loop = slices.Concat(loop[least:], loop[:least])
	}
	if Solid(turned) != api.ErrProof {
		t.Error("P57.2: order of vertices")
	}
	// A repeated plane must not have the face of the first one.
	s := clone.Solid(block("(0, 0, 0)"))
	s.Planes = append(s.Planes, s.Planes[0])
	moved := clone.Solid(s)
	moved.Faces = append(moved.Faces[1:], api.Face{Plane: 6, Loop: moved.Faces[0].Loop})
	if Solid(s) != api.OK || Solid(moved) != api.ErrProof {
		t.Error("P57.2: repeated plane")
	}
	r := rand.New(rand.NewSource(1))
	good := 0
	for range 60 {
		planes := slices.Clone(block("(0, 0, 0)").Planes)
		for range 1 + r.Intn(4) {
			planes = append(planes, api.Plane{N: vector.Of(r.Intn(5)-2, r.Intn(5)-2, 1+r.Intn(2)), D: field.Of(1 + r.Intn(2))})
		}
		if s, e := solid.Of(planes); e == api.OK {
			good++
			if Solid(s) != api.OK {
				t.Errorf("P57.2: %v", planes)
			}
		}
	}
	if good == 0 {
		t.Error("one-sided test")
	}
}

func TestVolumes(t *testing.T) { // P57.3, W13
	for i, s := range solids(t) {
		v, _ := measure.Volume(s)
		if Volume(s, v) != api.OK {
			t.Errorf("P57.3: %d", i)
		}
		for _, d := range []string{"1", "-1/1000", "r2"} {
			if Volume(s, field.Add(v, num(d))) != api.ErrProof {
				t.Errorf("P57.3: %d plus %s", i, d)
			}
		}
		if Volume(s, api.Num{}) != api.ErrArg || Volume(spoiled(s)[1], v) != api.ErrArg {
			t.Errorf("P57.1: %d", i)
		}
	}
	if Volume(block("(0, 0, 0)"), num("8")) != api.OK {
		t.Error("P57.3: example")
	}
}

func TestApart(t *testing.T) { // P57.1, P57.4, P57.6
	lists := [][]api.Solid{nil, {block("(0, 0, 0)")}, {block("(0, 0, 0)"), block("(2, 0, 0)"), block("(0, 2, 1)")}, {block("(0, 0, 0)"), block("(1, 1, 1)")}, {bar(0, "(0, 0, 0)"), bar(6, "(0, 0, 2)"), block("(0, 0, 9)")}, {bar(0, "(0, 0, 0)"), bar(6, "(0, 0, 19/10)")}, {solids(t)[3], solids(t)[4]}}
	r := rand.New(rand.NewSource(2))
	for range 20 {
		l := []api.Solid{}
		for range 3 {
			s, _ := solid.Shift(solids(t)[r.Intn(5)], vector.Of(r.Intn(5), r.Intn(5), r.Intn(3)))
			l = append(l, s)
		}
		lists = append(lists, l)
	}
	results := map[api.Errno]int{}
	for i, l := range lists {
		w, e := Witnesses(l)
		results[e]++
		overlaps, _ := separate.Pairs(l)
		if (e == api.OK) != (len(overlaps) == 0) || e != api.OK && (e != api.ErrOverlap || w != nil) {
			t.Fatalf("P57.4: %d: %v", i, e)
		}
		if e != api.OK {
			continue
		}
		if Apart(l, w) != api.OK || len(w) != len(l)*(len(l)-1)/2 {
			t.Fatalf("P57.4: %d: %v", i, Apart(l, w))
		}
		for k, x := range w {
			bad := slices.Clone(w)
			bad[k].Plane, _ = plane.Opposite(x.Plane)
			if Apart(l, bad) != api.ErrProof {
				t.Errorf("P57.6: %d %d", i, k)
			}
			bad[k].Plane = api.Plane{N: x.Plane.N, D: field.Sub(x.Plane.D, num("99"))}
			if Apart(l, bad) != api.ErrProof {
				t.Errorf("P57.6: %d %d", i, k)
			}
			bad[k].Plane = api.Plane{}
			if Apart(l, append(bad, x)) != api.ErrArg {
				t.Errorf("P57.1: %d %d", i, k)
			}
			for _, other := range []Witness{{x.I, x.K + 1, x.Plane}, {x.I + 1, x.K, x.Plane}} {
				bad[k] = other
				if Apart(l, bad) != api.ErrOrder {
					t.Errorf("P57.1: %d %d: other pair", i, k)
				}
			}
			bad[k] = Witness{x.K, x.I, x.Plane}
			if Apart(l, bad) != api.ErrOrder || Apart(l, w[:k]) != api.ErrOrder || Apart(l, append(slices.Clone(w), x)) != api.ErrOrder {
				t.Errorf("P57.1: %d %d: order", i, k)
			}
		}
	}
	if results[api.OK] < 5 || results[api.ErrOverlap] < 5 {
		t.Errorf("one-sided test: %v", results)
	}
	row := []api.Solid{}
	for i := range 12 {
		s, _ := solid.Shift(block("(0, 0, 0)"), vector.Of(2*i, 0, 0))
		row = append(row, s)
	}
	w, e := Witnesses(row)
	if e != api.OK || Apart(row, w) != api.OK || len(w) != 66 {
		t.Errorf("P57.1: 12 solids: %v", e)
	}
	many := slices.Repeat([]api.Solid{{}}, 13)
	_, e1 := Witnesses(many)
	_, e2 := Witnesses(many[:1])
	if e1 != api.ErrLimit || e2 != api.ErrArg || Apart(many, nil) != api.ErrLimit || Apart(many[:1], []Witness{{}}) != api.ErrArg {
		t.Errorf("P57.1: %v %v", e1, e2)
	}
}

func piece(id, material string, weight, count int) api.Piece {
	return api.Piece{ID: id, Material: material, Weight: weight, Count: count}
}

func before() []api.Piece {
	return []api.Piece{piece("a", "ruby", 500, 2), piece("b", "opal", 1000000, 1000), piece("c", "ruby", 999600, 999)}
}

func random(r *rand.Rand) parcel.Entry {
	id := func() string { return []string{"a", "b", "c", "d", "e", "at"}[r.Intn(6)] }
	n := func() int { return r.Intn(300) }
	x := parcel.Entry{Kind: r.Intn(7)}
	switch x.Kind {
	case parcel.In:
		x.Piece = piece(id(), []string{"ruby", "opal"}[r.Intn(2)], n(), n()/20)
	case parcel.Out:
		x.ID = id()
	case parcel.Split:
		x.ID, x.To, x.Weight, x.Count = id(), id(), n(), r.Intn(5)
	case parcel.Join:
		x.ID, x.To = id(), id()
	case parcel.Loss:
		x.ID, x.Weight = id(), n()
	}
	if r.Intn(12) == 0 {
		x.Count++
	}
	if r.Intn(12) == 0 {
		x.To = "z"
	}
	return x
}

func TestLedger(t *testing.T) { // P57.5
	r := rand.New(rand.NewSource(3))
	kinds := map[int]int{}
	for range 400 {
		now, book := before(), []parcel.Entry{}
		for range 25 {
			x := random(r)
			next, e := parcel.Do(now, x)
			want := api.OK
			if e != api.OK {
				want = api.ErrState
				next = now
			}
			if got := Ledger(now, []parcel.Entry{x}, next); got != want {
				t.Fatalf("P57.5: %v: %v, but %v", x, got, e)
			}
			if e == api.OK {
				kinds[x.Kind]++
				book, now = append(book, x), next
			}
		}
		if Ledger(before(), book, now) != api.OK {
			t.Fatalf("P57.5: %v", book)
		}
		for k := range now {
			other := slices.Clone(now)
			other[k].Count = other[k].Count%1000 + 1
			if Ledger(before(), book, other) != api.ErrProof || Ledger(before(), book, append(slices.Clone(now[:k]), now[k+1:]...)) != api.ErrProof {
				t.Fatalf("P57.5: other pieces after %v", book)
			}
		}
		if Ledger(before(), book, append(slices.Clone(now), piece("zz", "ruby", 1, 1))) != api.ErrProof {
			t.Fatal("P57.5: further piece")
		}
	}
	if len(kinds) != 5 {
		t.Errorf("one-sided test: %v", kinds)
	}
	full := []api.Piece{}
	for i := range 101 {
		full = append(full, piece("p"+strconv.Itoa(100+i), "ruby", 10, 2))
	}
	bad := []api.Piece{piece("b", "m", 1, 1), piece("a", "m", 1, 1)}
	in := parcel.Entry{Kind: parcel.In, Piece: piece("z", "m", 1, 1)}
	part := parcel.Entry{Kind: parcel.Split, ID: "p100", To: "q", Weight: 1, Count: 1}
	for i, c := range []struct {
		before []api.Piece
		book   []parcel.Entry
		after  []api.Piece
		e      api.Errno
	}{{bad, make([]parcel.Entry, 201), nil, api.ErrLimit}, {bad, make([]parcel.Entry, 200), nil, api.ErrArg}, {nil, make([]parcel.Entry, 200), bad, api.ErrArg}, {full, nil, full, api.ErrArg}, {full[:100], nil, full[:100], api.OK}, {full[:100], []parcel.Entry{in}, nil, api.ErrState}, {full[:99], []parcel.Entry{in}, append(slices.Clone(full[:99]), in.Piece), api.OK}, {full[:100], []parcel.Entry{part}, nil, api.ErrState}, {nil, make([]parcel.Entry, 200), nil, api.ErrState}, {nil, nil, nil, api.OK}, {before(), []parcel.Entry{{Kind: parcel.Join, ID: "c", To: "a"}}, nil, api.ErrState}, {nil, []parcel.Entry{{Kind: parcel.In, Piece: piece("z", "m", 0, 1)}}, nil, api.ErrState}} {
		if e := Ledger(c.before, c.book, c.after); e != c.e {
			t.Errorf("P57.1: %d: %v", i, e)
		}
	}
	l := before()
	Ledger(l, []parcel.Entry{{Kind: parcel.Out, ID: "a"}}, nil)
	if !slices.Equal(l, before()) {
		t.Error("P57.1: argument changed")
	}
}
