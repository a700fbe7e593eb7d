package interchange

import (
	"culet/api"
	"culet/meetpoint"
	"culet/tier"
)

// Numbers without sign are written in groups of bits, of which there are at most maxGroups.
const (
	groupBits = 7
	more      = 1 << groupBits
	maxGroups = 4
)

// writer collects bytes.
type writer struct{ b []byte }

func (w *writer) bytes(l ...byte) {
	w.b = append(w.b, l...)
}

func (w *writer) numbers(l ...int) {
	for _, n := range l {
		for ; n >= more; n >>= groupBits {
			w.bytes(byte(n%more + more))
		}
		w.bytes(byte(n))
	}
}

func (w *writer) signed(n int) {
	if n < 0 {
		w.numbers(-2*n - 1)
	} else {
		w.numbers(2 * n)
	}
}

func (w *writer) text(s string) {
	w.numbers(len(s))
	w.bytes([]byte(s)...)
}

func (w *writer) nums(l ...api.Num) {
	for _, x := range l {
		for _, a := range [...]api.Int{x.C[0], x.C[1], x.C[2], x.C[3], x.D} {
			n := 2 * len(a.Mag)
			if a.Neg {
				n++
			}
			w.numbers(n)
			w.bytes([]byte(a.Mag)...)
		}
	}
}

// stoneContent needs a stone that can be encoded.
func stoneContent(r api.Resolved) []byte {
	w := writer{}
	w.numbers(len(r.Facets))
	for _, f := range r.Facets {
		w.text(f.Tier)
		w.numbers(f.At.H)
		w.signed(f.At.V)
		w.numbers(f.At.Index)
		w.nums(f.Depth)
	}
	w.numbers(len(r.Solid.Verts))
	for _, v := range r.Solid.Verts {
		w.nums(v.X, v.Y, v.Z)
	}
	w.numbers(len(r.Solid.Faces))
	for _, f := range r.Solid.Faces {
		w.numbers(f.Plane, len(f.Loop))
		w.numbers(f.Loop...)
	}
	return w.b
}

// reader reads what is left of some bytes; after a fault, it reads zeros.
type reader struct {
	rest []byte
	bad  bool
}

// take returns the next bytes.
func (r *reader) take(n int) []byte {
	if n > len(r.rest) {
		r.bad = true
		r.rest = nil
		return nil
	}
	b := r.rest[:n]
	r.rest = r.rest[n:]
	return b
}

// content reads the parts of a content; take gives what is left of its bytes.
type content struct {
	*reader
	take func(n int) []byte
}

func newContent(b []byte) content {
	r := &reader{rest: b}
	return content{r, r.take}
}

func (c content) number() int {
	n := 0
	for i := range maxGroups {
		b := c.take(1)
		if c.bad {
			return 0
		}
		group := int(b[0])
		n += group % more << (groupBits * i)
		if group < more {
			// A last group of 0 is one too many.
			c.bad = c.bad || group == 0 && i > 0
			return n
		}
	}
	c.bad = true
	return 0
}

// count reads a number that is at most a limit.
func (c content) count(limit int) int {
	n := c.number()
	if n > limit {
		c.bad = true
		return 0
	}
	return n
}

func (c content) signed() int {
	n := c.number()
	if n%2 == 1 {
		return -(n + 1) / 2
	}
	return n / 2
}

func (c content) integer() api.Int {
	n := c.count(2*MaxBytes + 1)
	return api.Int{Neg: n%2 == 1, Mag: string(c.take(n / 2))}
}

func (c content) num() api.Num {
	x := api.Num{}
	for i := range x.C {
		x.C[i] = c.integer()
	}
	x.D = c.integer()
	return x
}

func (c content) facet() api.Facet {
	name := string(c.take(c.count(api.MaxName)))
	h := c.number()
	v := c.signed()
	at := api.Setting{H: h, V: v, Index: c.number()}
	return api.Facet{Tier: name, At: at, Depth: c.num()}
}

func (c content) face() api.Face {
	f := api.Face{Plane: c.number()}
	for range c.count(MaxVerts) {
		f.Loop = append(f.Loop, c.number())
	}
	return f
}

// readStone reads a stone, and reports whether the bytes are those of one.
func readStone(b []byte) (api.Resolved, bool) {
	c := newContent(b)
	r := api.Resolved{}
	for range c.count(tier.MaxFacets) {
		r.Facets = append(r.Facets, c.facet())
	}
	for range c.count(MaxVerts) {
		x := c.num()
		y := c.num()
		r.Solid.Verts = append(r.Solid.Verts, api.Vec{X: x, Y: y, Z: c.num()})
	}
	for range c.count(MaxFaces) {
		r.Solid.Faces = append(r.Solid.Faces, c.face())
	}
	planes, e := meetpoint.Planes(r.Facets)
	r.Solid.Planes = planes
	return r, !c.bad && len(c.rest) == 0 && e == api.OK
}
