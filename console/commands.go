package console

import (
	"slices"
	"strconv"
	"strings"

	"culet/api"
	"culet/equivalence"
	"culet/field"
	"culet/format"
	"culet/measure"
	"culet/resolve"
	"culet/section"
	"culet/settings"
	"culet/solid"
	"culet/symmetry"
	"culet/syntax"
	"culet/tier"
	"culet/vector"
)

// maxDigits is the greatest number of digits of an argument.
const maxDigits = 6

// answer adds a line of some parts.
func (s *session) answer(parts ...string) {
	s.answers = append(s.answers, strings.Join(parts, " "))
}

// number returns the number that the argument is, and whether it is one.
func (s *session) number() (int, api.Errno) {
	n, err := strconv.Atoi(s.args[0])
	if err != nil || n < 0 || strconv.Itoa(n) != s.args[0] || len(s.args[0]) > maxDigits {
		return 0, api.ErrSyntax
	}
	return n, api.OK
}

// change takes a design in place of that of the space, if it is right.
func (s *session) change(d api.Design) api.Errno {
	if _, e := tier.Check(d); e != api.OK {
		return e
	}
	s.space = Space{Has: true, Design: d}
	s.answer("ok")
	return api.OK
}

// read takes the design of a text.
func (s *session) read(text string) api.Errno {
	d, _, e := syntax.Parse(text)
	if e != api.OK {
		return e
	}
	return s.change(d)
}

func (s *session) design() api.Errno {
	return s.read(s.line)
}

func (s *session) tier() api.Errno {
	text, e := format.Print(s.space.Design)
	if e != api.OK {
		return e
	}
	return s.read(text + s.line)
}

func (s *session) drop() api.Errno {
	d := s.space.Design
	i := slices.IndexFunc(d.Tiers, func(t api.Tier) bool { return t.Name == s.args[0] })
	if i < 0 {
		return api.ErrName
	}
	d.Tiers = slices.Concat(d.Tiers[:i], d.Tiers[i+1:])
	return s.change(d)
}

func (s *session) show() api.Errno {
	lines, e := format.Lines(s.space.Design)
	s.answers = lines
	return e
}

func (s *session) depths() api.Errno {
	l, _, e := resolve.Depths(s.space.Design)
	for i, depth := range l {
		s.answer(s.space.Design.Tiers[i].Name, field.Print(depth))
	}
	return e
}

// stone calls a function with the solid of the resolved design.
func (s *session) stone(f func(x api.Solid) api.Errno) api.Errno {
	r, _, e := resolve.Resolve(s.space.Design)
	if e != api.OK {
		return e
	}
	return f(r.Solid)
}

func (s *session) solid() api.Errno {
	return s.stone(func(x api.Solid) api.Errno {
		edges := len(solid.Edges(x))
		s.answer("faces", strconv.Itoa(len(x.Faces)), "vertices", strconv.Itoa(len(x.Verts)), "edges", strconv.Itoa(edges))
		return api.OK
	})
}

func (s *session) volume() api.Errno {
	return s.stone(func(x api.Solid) api.Errno {
		v, e := measure.Volume(x)
		s.answer(field.Print(v))
		return e
	})
}

func (s *session) weight() api.Errno {
	density, e := s.number()
	if e != api.OK {
		return e
	}
	return s.stone(func(x api.Solid) api.Errno {
		w, e := measure.Weight(x, density)
		s.answer(field.Print(w))
		return e
	})
}

func (s *session) group() api.Errno {
	return s.stone(func(x api.Solid) api.Errno {
		order, mirror, e := symmetry.Order(x)
		parts := []string{strconv.Itoa(order)}
		if mirror {
			parts = append(parts, "mirror")
		}
		s.answer(parts...)
		return e
	})
}

func (s *session) plan() api.Errno {
	return s.stone(func(x api.Solid) api.Errno {
		outline, e := section.Plan(x)
		for _, v := range outline {
			s.answer(vector.Print(v))
		}
		return e
	})
}

func (s *session) width() api.Errno {
	position, e := s.number()
	if e != api.OK {
		return e
	}
	return s.stone(func(x api.Solid) api.Errno {
		w, e := section.Width(x, position)
		s.answer(field.Print(w))
		return e
	})
}

func (s *session) sheet() api.Errno {
	teeth, e := s.number()
	if e != api.OK {
		return e
	}
	facets, e := tier.Facets(s.space.Design)
	if e != api.OK {
		return e
	}
	l := []api.Setting{}
	for _, f := range facets {
		l = append(l, f.At)
	}
	s.answers, e = settings.Sheet(l, teeth)
	return e
}

func (s *session) same() api.Errno {
	own, _, e := resolve.Facets(s.space.Design)
	if e != api.OK {
		return e
	}
	d, _, e := syntax.Parse(s.rest)
	if e != api.OK {
		return e
	}
	other, _, e := resolve.Facets(d)
	if e != api.OK {
		return e
	}
	if equivalence.Equivalent(own, other) {
		s.answer("yes")
	} else {
		s.answer("no")
	}
	return api.OK
}
