package field

import (
	"culet/api"
	"culet/bigint"
)

// machine is a number with machine integers, which are so small that sums and products of two such numbers do not overflow.
type machine struct {
	c [4]int
	d int
}

// maxBytes is the number of bytes of the integers of a machine.
const maxBytes = 3

// small returns two numbers as machines, and whether they are valid, and small enough.
func small(x, y api.Num) (m, n machine, ok bool) {
	if m, ok = toMachine(x); !ok {
		return m, n, false
	}
	n, ok = toMachine(y)
	return m, n, ok
}

func toMachine(x api.Num) (m machine, ok bool) {
	if len(x.D.Mag) > maxBytes {
		return m, false
	}
	for i, c := range x.C {
		if len(c.Mag) > maxBytes {
			return m, false
		}
		if c.Mag == "" {
			if c.Neg {
				return m, false
			}
			continue
		}
		if m.c[i], ok = toInt(c); !ok {
			return m, false
		}
	}
	if m.d, ok = toInt(x.D); !ok || m.d <= 0 {
		return m, false
	}
	return m, m.d == 1 || m.common() == 1
}

func toInt(a api.Int) (int, bool) {
	if a.Mag == "" || a.Mag[0] == 0 {
		return 0, false
	}
	n := 0
	for i := 0; i < len(a.Mag); i++ {
		n = n<<8 | int(a.Mag[i])
	}
	if a.Neg {
		return -n, true
	}
	return n, true
}

func (m machine) common() int {
	g := m.d
	for _, x := range m.c {
		if x < 0 {
			x = -x
		}
		for x != 0 {
			g, x = x, g%x
		}
		if g == 1 {
			break
		}
	}
	return g
}

// number returns the valid form; d is positive.
func (m machine) number() api.Num {
	x := api.Num{}
	g := 1
	if m.d > 1 {
		g = m.common()
	}
	for i, c := range m.c {
		if c != 0 {
			x.C[i] = bigint.Of(c / g)
		}
	}
	x.D = bigint.Of(m.d / g)
	return x
}

func (m machine) opposite() machine {
	for i := range m.c {
		m.c[i] = -m.c[i]
	}
	return m
}

func (m machine) add(n machine) api.Num {
	var out machine
	for i := range out.c {
		out.c[i] = m.c[i]*n.d + n.c[i]*m.d
	}
	out.d = m.d * n.d
	return out.number()
}

func (m machine) mul(n machine) api.Num {
	var out machine
	for i, a := range m.c {
		if a == 0 {
			continue
		}
		for k, b := range n.c {
			p := products[i][k]
			out.c[p.root] += a * b * p.factor
		}
	}
	out.d = m.d * n.d
	return out.number()
}
