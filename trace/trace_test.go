package trace

import (
	"math/rand"
	"reflect"
	"slices"
	"testing"

	"culet/api"
	"culet/direction"
	"culet/field"
	"culet/fresnel"
	"culet/interval"
	"culet/plane"
	"culet/refraction"
	"culet/solid"
	"culet/vector"
)

const one = interval.Unit

func iv(lo, hi int) api.Interval { return api.Interval{Lo: lo, Hi: hi} }

func num(s string) api.Num {
	x, _ := field.Parse(s)
	return x
}

func exact(x, y, z int) direction.Dir {
	return direction.Dir{X: iv(x, x), Y: iv(y, y), Z: iv(z, z)}
}

func cube(t *testing.T, index int) Body {
	t.Helper()
	s, _ := solid.Block(1)
	b, e := Prepare(s, iv(index*one/10, index*one/10))
	if e != api.OK {
		t.Fatal(e)
	}
	return b
}

func ring(h, v, start, step int, depth string) (l []api.Plane) {
	for i := start; i < 24; i += step {
		p, _ := plane.Of(api.Setting{H: h, V: v, Index: i}, num(depth))
		l = append(l, p)
	}
	return l
}

func brilliant(t *testing.T, index int) Body {
	t.Helper()
	top, _ := plane.Of(api.Setting{V: 1}, num("1/3"))
	s, e := solid.Of(slices.Concat([]api.Plane{top}, ring(4, 5, 0, 3, "9/2"), ring(1, 0, 0, 3, "1"), ring(6, -5, 0, 3, "5")))
	if e != api.OK {
		t.Fatal(e)
	}
	b, e := Prepare(s, iv(index*one/10, index*one/10))
	if e != api.OK {
		t.Fatal(e)
	}
	return b
}

func part(r *rand.Rand, x api.Interval) api.Interval {
	a, b := x.Lo+r.Intn(x.Hi-x.Lo+1), x.Lo+r.Intn(x.Hi-x.Lo+1)
	return iv(min(a, b), max(a, b))
}

func partOf(r *rand.Rand, a direction.Dir) direction.Dir {
	return direction.Dir{X: part(r, a.X), Y: part(r, a.Y), Z: part(r, a.Z)}
}

// ray returns a box of rays of some width near the middle.
func ray(r *rand.Rand, width int) Ray {
	near := func(size int) api.Interval {
		a := r.Intn(2*size+1) - size
		return iv(a, a+r.Intn(width+1))
	}
	d, _ := direction.Of(near(3*one), near(3*one))
	return Ray{direction.Dir{X: near(one / 2), Y: near(one / 2), Z: near(one / 8)}, d}
}

func TestExample(t *testing.T) { // P31.1
	b := cube(t, 20)
	r := Ray{exact(0, 0, 0), exact(0, 0, one)}
	if face, length, e := Hit(b, r); face != 4 || length != iv(one, one) || e != api.OK {
		t.Errorf("P31.1: %d %v %v", face, length, e)
	}
	p, e := Follow(b, r, iv(one, one), 5)
	if e != api.OK || p.Kind != Returns || !slices.Equal(p.Faces, []int{4}) || p.Out != exact(0, 0, one) || p.Gain.Lo > one*8/9 || p.Gain.Hi < one*8/9+1 || p.Gain.Hi-p.Gain.Lo > 3 {
		t.Errorf("P31.1: %v %v", p, e)
	}
	r.Dir = exact(0, 0, -one)
	if p, _ := Follow(b, r, iv(one, one), 0); p.Kind != Leaks || !slices.Equal(p.Faces, []int{5}) {
		t.Errorf("P31.1: %v", p)
	}
	// A ray at 45 degrees is reflected by each side, so that it never leaves.
	d, _ := direction.Unit(exact(one, 0, one))
	r = Ray{exact(0, 0, one/2), d}
	for most, want := range map[int][]int{0: {4}, 1: {4, 0}, 3: {4, 0, 5, 1}} {
		if p, e := Follow(b, r, iv(one, one), most); e != api.OK || p.Kind != Unknown || !slices.Equal(p.Faces, want) || p.Out != (direction.Dir{}) || p.Gain != (api.Interval{}) {
			t.Errorf("P31.1: %d: %v %v", most, p, e)
		}
	}
}

// plain finds the face word by word.
func plain(b Body, r Ray) (int, api.Interval, api.Errno) {
	type bound struct{ face, least, greatest int }
	l := []bound{}
	for i, n := range b.Normals {
		c, e := direction.Dot(n, r.Dir)
		if e != api.OK {
			return 0, api.Interval{}, e
		}
		x, e := direction.Dot(n, r.At)
		if e != api.OK {
			return 0, api.Interval{}, e
		}
		g, e := interval.Sub(b.Depths[i], x)
		if e != api.OK {
			return 0, api.Interval{}, e
		}
		if c.Hi <= 0 {
			continue
		}
		w := bound{i, max(0, g.Lo) * one / c.Hi, -1}
		if c.Lo > 0 {
			w.greatest = max(0, g.Hi) * one / c.Lo
			if max(0, g.Hi)*one%c.Lo > 0 {
				w.greatest++
			}
		}
		l = append(l, w)
	}
	best := -1
	for i, w := range l {
		if w.greatest >= 0 && (best < 0 || w.greatest < l[best].greatest) {
			best = i
		}
	}
	if len(l) == 0 {
		return 0, api.Interval{}, api.ErrNone
	}
	if best < 0 {
		return 0, api.Interval{}, api.ErrAmbiguous
	}
	for i, w := range l {
		if i != best && w.least <= l[best].greatest {
			return 0, api.Interval{}, api.ErrAmbiguous
		}
	}
	if l[best].greatest > interval.Max {
		return 0, api.Interval{}, api.ErrLimit
	}
	return l[best].face, iv(l[best].least, l[best].greatest), api.OK
}

func TestHit(t *testing.T) { // P31.1, P31.2
	r := rand.New(rand.NewSource(1))
	seen := map[api.Errno]int{}
	bodies := []Body{cube(t, 20), brilliant(t, 15)}
	for i := range 3000 {
		b := bodies[i/100%2]
		x := ray(r, []int{0, one / 100, one}[i%3])
		face, length, e := Hit(b, x)
		wf, wl, we := plain(b, x)
		seen[e]++
		if face != wf || length != wl || e != we {
			t.Fatalf("P31.1: %v: %d %v %v, want %d %v %v", x, face, length, e, wf, wl, we)
		}
		if e != api.OK {
			continue
		}
		way, _ := direction.Scale(x.Dir, length)
		at, _ := direction.Add(x.At, way)
		d, _ := direction.Dot(b.Normals[face], at)
		if _, none := interval.Meet(d, b.Depths[face]); length.Lo > 0 && none != api.OK {
			t.Fatalf("P31.2: %v", x)
		}
	}
	if seen[api.OK] < 100 || seen[api.ErrAmbiguous] < 100 {
		t.Errorf("P31.1: %v", seen)
	}
	b := cube(t, 20)
	if _, _, e := Hit(b, Ray{exact(0, 0, 0), exact(0, 0, 0)}); e != api.ErrNone {
		t.Errorf("P31.1: %v", e)
	}
	if _, _, e := Hit(b, Ray{exact(0, 0, 0), exact(0, 0, 1)}); e != api.ErrLimit {
		t.Errorf("P31.1: %v", e)
	}
	if f, l, e := Hit(b, Ray{exact(0, 0, 0), exact(0, 0, one/64)}); f != 4 || l != iv(64*one, 64*one) || e != api.OK {
		t.Errorf("P31.1: %v", e)
	}
	if _, _, e := Hit(b, Ray{exact(0, 0, 0), direction.Dir{X: iv(-1, 1), Y: iv(0, 0), Z: iv(0, 0)}}); e != api.ErrAmbiguous {
		t.Errorf("P31.1: %v", e)
	}
	if _, _, e := Hit(b, Ray{exact(0, 0, 0), exact(one, 0, one)}); e != api.ErrAmbiguous {
		t.Errorf("P31.1: two faces at once: %v", e)
	}
	if f, l, e := Hit(b, Ray{exact(0, 0, 3*one), exact(0, 0, one)}); f != 4 || l != iv(0, 0) || e != api.OK {
		t.Errorf("P31.1: %d %v %v", f, l, e)
	}
	far := b
	far.Depths = slices.Clone(b.Depths)
	far.Depths[1] = iv(-64*one, 64*one)
	if _, _, e := Hit(far, Ray{exact(-one, 0, 0), exact(0, 0, one)}); e != api.ErrLimit {
		t.Errorf("P31.1: operation: %v", e)
	}
}

// plainPath follows a ray with few steps at a time.
func plainPath(b Body, x Ray, gain api.Interval, most int) Path {
	p := Path{Kind: Unknown}
	for bounces := 0; ; bounces++ {
		face, length, e := plain(b, x)
		if e != api.OK {
			return p
		}
		p.Faces = append(p.Faces, face)
		way, e1 := direction.Scale(x.Dir, length)
		at, e2 := direction.Add(x.At, way)
		kind, e3 := refraction.Hits(x.Dir, b.Normals[face], b.Index)
		if e1 != api.OK || e2 != api.OK || e3 != api.OK {
			return p
		}
		if kind == refraction.Passes {
			out, c, s, e := refraction.Refract(x.Dir, b.Normals[face], b.Index)
			if e != api.OK || interval.Sign(out.Z) == 0 {
				return p
			}
			cut := func(x api.Interval) api.Interval { return iv(max(0, min(x.Lo, one)), max(0, min(x.Hi, one))) }
			light, e := fresnel.Transmittance(fresnel.Surface{Before: cut(c), After: cut(s), From: b.Index, To: iv(one, one)})
			if e != api.OK {
				return p
			}
			p.Gain, _ = interval.Mul(gain, light)
			p.Out = out
			p.Kind = map[int]int{1: Returns, -1: Leaks}[interval.Sign(out.Z)]
			return p
		}
		if kind != refraction.Total || bounces == most {
			return p
		}
		d, e := refraction.Reflect(x.Dir, b.Normals[face])
		if e != api.OK {
			return p
		}
		x = Ray{at, d}
	}
}

func TestPaths(t *testing.T) { // P31.1, P31.3, P31.4, P31.5
	r := rand.New(rand.NewSource(2))
	kinds := map[int]int{}
	bodies := []Body{cube(t, 14), cube(t, 20), brilliant(t, 15), brilliant(t, 24)}
	for i := range 1500 {
		b := bodies[i%4]
		x := ray(r, []int{0, one / 1000, one / 40, one / 4}[i/4%4])
		gain := part(r, iv(0, one))
		most := r.Intn(12)
		p, e := Follow(b, x, gain, most)
		if want := plainPath(b, x, gain, most); e != api.OK || !reflect.DeepEqual(p, want) {
			t.Fatalf("P31.1: %v: %v %v, want %v", x, p, e, want)
		}
		kinds[p.Kind]++
		if p.Kind != Unknown && (p.Gain.Lo < 0 || p.Gain.Hi > gain.Hi) || len(p.Faces) > most+1 {
			t.Fatalf("P31.4: %v of %v", p.Gain, gain)
		}
		small := Ray{partOf(r, x.At), partOf(r, x.Dir)}
		q, _ := Follow(b, small, part(r, gain), most)
		if !Inside(q, p) {
			t.Fatalf("P31.3: %v is not inside %v", q, p)
		}
		longer, _ := Follow(b, x, gain, min(most+1+r.Intn(9), MaxBounces))
		if !Inside(longer, p) || p.Kind != Unknown && !reflect.DeepEqual(longer, p) {
			t.Fatalf("P31.5: %v %v", longer, p)
		}
	}
	if kinds[Returns] < 20 || kinds[Leaks] < 20 || kinds[Unknown] < 20 {
		t.Errorf("P31.1: %v", kinds)
	}
}

func TestScale(t *testing.T) { // P31.6
	r := rand.New(rand.NewSource(3))
	s, _ := solid.Block(2)
	double, _ := Prepare(s, iv(one*3/2, one*3/2))
	b := cube(t, 15)
	for range 300 {
		x := ray(r, 0)
		y := Ray{exact(2*x.At.X.Lo, 2*x.At.Y.Lo, 2*x.At.Z.Lo), x.Dir}
		p, _ := Follow(b, x, iv(one, one), 6)
		q, _ := Follow(double, y, iv(one, one), 6)
		if p.Kind != Unknown && q.Kind != Unknown && (p.Kind != q.Kind || !slices.Equal(p.Faces, q.Faces)) {
			t.Fatalf("P31.6: %v: %v %v", x, p, q)
		}
	}
}

func TestEnter(t *testing.T) { // P31.1, P31.4
	b := cube(t, 20)
	r := rand.New(rand.NewSource(4))
	for range 300 {
		d, _ := direction.Of(iv(0, r.Intn(one/2)), part(r, iv(-one/2, one/2)))
		x := Ray{exact(1, 2, 3), d}
		in, light, e := Enter(b, 4, x)
		out, before, after, e2 := refraction.Refract(d, b.Normals[4], iv(one/2, one/2))
		if e != e2 || e == api.OK && (in != Ray{x.At, out} || light.Lo < 0 || light.Hi > one || interval.Sign(before) >= 0 || interval.Sign(after) >= 0) {
			t.Fatalf("P31.4: %v: %v %v", d, e, e2)
		}
	}
	down := Ray{exact(0, 0, one), exact(0, 0, -one)}
	if in, light, e := Enter(b, 4, down); in != down || light.Lo > one*8/9 || light.Hi < one*8/9 || e != api.OK {
		t.Errorf("P31.1: %v %v %v", in, light, e)
	}
	for i, c := range []struct {
		face int
		r    Ray
		e    api.Errno
	}{{-1, down, api.ErrRange}, {6, down, api.ErrRange}, {5, down, api.ErrState}, {0, down, api.ErrState}, {9, Ray{exact(0, 0, 0), direction.Dir{X: iv(1, 0)}}, api.ErrArg}, {4, Ray{exact(0, 0, 0), exact(40*one, 0, -40*one)}, api.ErrLimit}} {
		if in, light, e := Enter(b, c.face, c.r); e != c.e || in != (Ray{}) || light != (api.Interval{}) {
			t.Errorf("P31.1: %d: %v", i, e)
		}
	}
}

// plainLight is the light that enters, by the absolute values of the cosines of Refract.
func plainLight(b Body, face int, d direction.Dir) (api.Interval, api.Errno) {
	ratio, _ := interval.Div(iv(one, one), b.Index)
	_, before, after, e := refraction.Refract(d, b.Normals[face], ratio)
	if e != api.OK {
		return api.Interval{}, e
	}
	if before.Lo > 0 {
		return api.Interval{}, api.ErrState
	}
	cut := func(x api.Interval) api.Interval { return iv(max(0, min(-x.Hi, one)), max(0, min(-x.Lo, one))) }
	return fresnel.Transmittance(fresnel.Surface{Before: cut(before), After: cut(after), From: iv(one, one), To: b.Index})
}

func TestGrazing(t *testing.T) { // P31.1, P31.3, P31.4
	b := cube(t, 10)
	// The cosine after is from -4096 units to 0: with a lesser one before, the quotient of layer 30 is beyond the limits.
	for _, k := range []int{1, 2, 3, 5, 63, 400} {
		if in, light, e := Enter(b, 0, Ray{exact(0, 0, 0), exact(-k, 0, one)}); in != (Ray{}) || light != (api.Interval{}) || e != api.ErrLimit {
			t.Errorf("P31.1: %d: %v %v %v", k, in, light, e)
		}
	}
	for _, k := range []int{500, 1000, 2000, 4000} {
		if _, light, e := Enter(b, 0, Ray{exact(0, 0, 0), exact(-k, 0, one)}); light != iv(0, one) || e != api.OK {
			t.Errorf("P31.1: %d: %v %v", k, light, e)
		}
	}
	r := rand.New(rand.NewSource(5))
	seen := map[api.Errno]int{}
	for i := range 2000 {
		b.Index = iv(one, one+r.Intn(3)*r.Intn(1<<(i%20)))
		c := r.Intn(1<<(i%24)) + 1
		d := direction.Dir{X: iv(-c-r.Intn(c), -c), Y: iv(0, 0), Z: iv(one, one)}
		in, light, e := Enter(b, 0, Ray{exact(1, 2, 3), d})
		want, fault := plainLight(b, 0, d)
		if light != want || e != fault {
			t.Fatalf("P31.1: %v: %v %v, want %v %v", d, light, e, want, fault)
		}
		seen[e]++
		if e != api.OK {
			continue
		}
		small, part, e := Enter(b, 0, Ray{exact(1, 2, 3), partOf(r, d)})
		if e != api.OK || !direction.Inside(small.Dir, in.Dir) || !interval.Inside(part, light) || light.Lo < 0 || light.Hi > one {
			t.Fatalf("P31.3: %v: %v %v %v", d, part, light, e)
		}
	}
	if seen[api.OK] < 100 || seen[api.ErrLimit] < 100 {
		t.Errorf("P31.1: %v", seen)
	}
}

func TestBodies(t *testing.T) { // P31.1
	s, _ := solid.Block(3)
	b, e := Prepare(s, iv(one, 4*one))
	if e != api.OK || !Valid(b) || len(b.Normals) != 6 || b.Depths[0] != iv(3*one, 3*one) || b.Normals[1] != exact(-one, 0, 0) || b.Index != iv(one, 4*one) {
		t.Errorf("P31.1: %v %v", b, e)
	}
	bad := s
	bad.Faces = nil
	far, _ := solid.Block(65)
	for i, c := range []struct {
		s     api.Solid
		index api.Interval
		e     api.Errno
	}{{bad, iv(one, one), api.ErrArg}, {s, iv(one-1, one), api.ErrArg}, {s, iv(one, 4*one+1), api.ErrArg}, {s, iv(2*one, one), api.ErrArg}, {far, iv(one, one), api.ErrLimit}, {far, iv(0, one), api.ErrArg}} {
		if b, e := Prepare(c.s, c.index); e != c.e || b.Normals != nil {
			t.Errorf("P31.1: %d: %v", i, e)
		}
	}
	good := cube(t, 20)
	for i, f := range []func(b *Body){
		func(b *Body) { b.Normals, b.Depths = b.Normals[:3], b.Depths[:3] }, func(b *Body) { b.Depths = b.Depths[1:] }, func(b *Body) { b.Index = iv(0, one) }, func(b *Body) { b.Index = iv(one, 5*one) }, func(b *Body) { b.Normals[2].Y = iv(1, 0) }, func(b *Body) { b.Depths[5] = iv(1, 0) },
		func(b *Body) { b.Normals, b.Depths = slices.Repeat(b.Normals, 17), slices.Repeat(b.Depths, 17) },
	} {
		b := Body{slices.Clone(good.Normals), slices.Clone(good.Depths), good.Index}
		f(&b)
		r := Ray{exact(0, 0, 0), exact(0, 0, one)}
		_, _, e1 := Hit(b, r)
		_, _, e2 := Enter(b, -1, r)
		_, e3 := Follow(b, r, iv(0, 0), -1)
		if Valid(b) || e1 != api.ErrArg || e2 != api.ErrArg || e3 != api.ErrArg {
			t.Errorf("P31.1: %d: %v %v %v", i, e1, e2, e3)
		}
	}
	r, wrong := Ray{exact(0, 0, 0), exact(0, 0, one)}, Ray{direction.Dir{Z: iv(1, 0)}, exact(0, 0, one)}
	for i, c := range []struct {
		r    Ray
		gain api.Interval
		most int
		e    api.Errno
	}{{wrong, iv(0, 0), 99, api.ErrArg}, {r, iv(-1, 0), 99, api.ErrArg}, {r, iv(0, one+1), 0, api.ErrArg}, {r, iv(1, 0), 0, api.ErrArg}, {r, iv(0, 0), -1, api.ErrRange}, {r, iv(0, 0), 21, api.ErrRange}} {
		if p, e := Follow(good, c.r, c.gain, c.most); e != c.e || p.Kind != 0 || p.Faces != nil {
			t.Errorf("P31.1: %d: %v", i, e)
		}
	}
	if _, _, e := Hit(good, wrong); e != api.ErrArg {
		t.Errorf("P31.1: %v", e)
	}
	if !solid.Valid(s) || vector.Zero(s.Verts[0]) {
		t.Error("solid")
	}
}

func TestInside(t *testing.T) { // P31.1
	p := Path{Returns, []int{1, 2}, exact(0, 0, one), iv(1, 2)}
	wide := Path{Returns, []int{1, 2}, direction.Dir{X: iv(-1, 1), Y: iv(0, 0), Z: iv(0, one)}, iv(0, 5)}
	unknown := Path{Kind: Unknown, Faces: []int{1}}
	for i, c := range []struct {
		p, q Path
		want bool
	}{
		{p, p, true}, {p, wide, true}, {wide, p, false}, {p, unknown, true}, {unknown, p, false}, {p, Path{Kind: Unknown}, true}, {p, Path{Kind: Unknown, Faces: []int{2}}, false}, {p, Path{Kind: Unknown, Faces: []int{1, 2, 3}}, false}, {unknown, unknown, true},
		{p, Path{Leaks, p.Faces, p.Out, p.Gain}, false}, {p, Path{Returns, []int{1}, p.Out, p.Gain}, false}, {p, Path{Returns, p.Faces, p.Out, iv(2, 3)}, false}, {p, Path{Returns, p.Faces, exact(0, 0, 1), p.Gain}, false},
	} {
		if Inside(c.p, c.q) != c.want {
			t.Errorf("P31.1: %d", i)
		}
	}
}
