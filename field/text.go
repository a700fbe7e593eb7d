package field

import (
	"strings"

	"culet/api"
	"culet/bigint"
)

// The limits of written numbers.
const (
	maxText     = 400
	maxInteger  = 60
	maxFraction = 20
)

func rootName(i int) string {
	return [4]string{"", "r2", "r3", "r6"}[i]
}

// Print returns the text of a number.
func Print(x api.Num) string {
	if !Valid(x) {
		return ""
	}
	var b strings.Builder
	for i, c := range x.C {
		if c.Mag == "" {
			continue
		}
		if c.Neg {
			b.WriteString("-")
		} else if b.Len() > 0 {
			b.WriteString("+")
		}
		value := magnitude(c, x.D)
		if value != "1" || i == 0 {
			b.WriteString(value)
		}
		b.WriteString(rootName(i))
	}
	if b.Len() == 0 {
		return "0"
	}
	return b.String()
}

// magnitude returns the text of the absolute value of a fraction.
func magnitude(n, d api.Int) string {
	g := bigint.Gcd(n, d)
	n, _, _ = bigint.DivMod(bigint.Abs(n), g)
	d, _, _ = bigint.DivMod(d, g)
	if d.Mag == one {
		return bigint.Print(n)
	}
	return bigint.Print(n) + "/" + bigint.Print(d)
}

// reader reads a written number; the first fault is kept.
type reader struct {
	rest   string
	bad    bool
	zeroed bool
}

// Parse returns the number for which a written one stands.
func Parse(s string) (api.Num, api.Errno) {
	if len(s) > maxText {
		return api.Num{}, api.ErrLimit
	}
	r := reader{rest: s}
	sum := Of(0)
	for first := true; first || r.rest != "" && !r.bad; first = false {
		negative := r.accept("-")
		if !negative && !first && !r.accept("+") {
			r.bad = true
			break
		}
		x := r.term()
		if negative {
			x = Neg(x)
		}
		sum = Add(sum, x)
	}
	switch {
	case r.bad:
		return api.Num{}, api.ErrSyntax
	case r.zeroed:
		return api.Num{}, api.ErrDiv
	}
	return sum, api.OK
}

func (r *reader) accept(s string) bool {
	rest, ok := strings.CutPrefix(r.rest, s)
	r.rest = rest
	return ok
}

func (r *reader) digits() string {
	n := 0
	for n < len(r.rest) && r.rest[n] >= '0' && r.rest[n] <= '9' {
		n++
	}
	s := r.rest[:n]
	r.rest = r.rest[n:]
	return s
}

func (r *reader) integer() string {
	s := r.digits()
	if s == "" || len(s) > maxInteger || len(s) > 1 && s[0] == '0' {
		r.bad = true
		return "0"
	}
	return s
}

// term returns the value of a term; 0 after a fault.
func (r *reader) term() api.Num {
	if r.rest == "" {
		r.bad = true
		return Of(0)
	}
	x := Of(1)
	if r.rest[0] != 'r' {
		x = r.value()
	}
	for i, k := range [4]int{1, 2, 3, 6} {
		if i > 0 && r.accept(rootName(i)) {
			return Mul(x, Root(k))
		}
	}
	if r.rest != "" && r.rest[0] == 'r' {
		r.bad = true
	}
	return x
}

func (r *reader) value() api.Num {
	n, d := r.integer(), "1"
	switch {
	case r.accept("/"):
		d = r.integer()
	case r.accept("."):
		fraction := r.digits()
		if fraction == "" || len(fraction) > maxFraction {
			r.bad = true
			return Of(0)
		}
		n, d = n+fraction, "1"+strings.Repeat("0", len(fraction))
	}
	if d == "0" {
		r.zeroed = true
		d = "1"
	}
	x, _ := Make([4]api.Int{integerOf(n)}, integerOf(d))
	return x
}

func integerOf(digits string) api.Int {
	digits = strings.TrimLeft(digits, "0")
	if digits == "" {
		return api.Int{}
	}
	a, _ := bigint.Parse(digits)
	return a
}
