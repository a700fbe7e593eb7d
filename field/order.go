package field

import (
	"strings"

	"culet/api"
	"culet/bigint"
)

// The square roots in units of 2^-61, rounded down.
const (
	unit  = 1 << 61
	fast2 = 3260954456333195553
	fast3 = 3993837246235628775
	fast6 = 5648138799537240564
)

// The square roots in units of 2^-128, rounded down, as bytes.
const (
	firstBits = 128
	bytes2    = "\x01\x6a\x09\xe6\x67\xf3\xbc\xc9\x08\xb2\xfb\x13\x66\xea\x95\x7d\x3e"
	bytes3    = "\x01\xbb\x67\xae\x85\x84\xca\xa7\x3b\x25\x74\x2d\x70\x78\xb8\x3b\x89"
	bytes6    = "\x02\x73\x11\xc2\x81\x24\x25\xcf\xa0\x64\x32\x28\x64\x34\xaa\xc8\xe7"
)

// Sign returns the sign, and Cmp compares two numbers.
func Sign(x api.Num) int {
	if !Valid(x) {
		return 0
	}
	return sign(x.C)
}

func Cmp(x, y api.Num) int {
	if x == y || !valid(x, y) {
		return 0
	}
	return sign(Sub(x, y).C)
}

// sign returns the sign of a numerator.
func sign(c [4]api.Int) int {
	if rational(c) {
		return bigint.Sign(c[0])
	}
	if s, ok := fastSign(c); ok {
		return s
	}
	for n := firstBits; ; n *= 2 {
		value, slack := approximate(c, n)
		if bigint.Cmp(bigint.Abs(value), slack) > 0 {
			return bigint.Sign(value)
		}
	}
}

// fastSign decides the sign in fixed-point numbers, if this is possible. Of long coefficients, only the first bytes count.
func fastSign(c [4]api.Int) (int, bool) {
	roots := [4]int{unit, fast2, fast3, fast6}
	cutOff := 0
	for _, x := range c {
		cutOff = max(cutOff, len(x.Mag)-wideBytes)
	}
	value, slack := wide{}, wide{}
	if cutOff > 0 {
		// Each coefficient lost less than 1, and the sum of 1 and all roots is less than 7.
		slack = slack.add(unit, 7)
	}
	for i, x := range c {
		n := leading(x, cutOff)
		value = value.add(n, roots[i])
		slack = slack.add(max(n, -n), 1)
	}
	switch {
	case slack.less(value):
		return 1, true
	case slack.less(value.opposite()):
		return -1, true
	}
	return 0, false
}

// power returns 2 to the power n.
func power(n int) api.Int {
	return api.Int{Mag: string([]byte{1 << (n % 8)}) + strings.Repeat("\x00", n/8)}
}

// approximate returns 2^n times a numerator, but for less than slack.
func approximate(c [4]api.Int, n int) (value, slack api.Int) {
	roots := [4]api.Int{{}, {Mag: bytes2}, {Mag: bytes3}, {Mag: bytes6}}
	if n > firstBits {
		square := power(2 * n)
		for i, k := range [4]int{0, 2, 3, 6} {
			roots[i], _ = bigint.Sqrt(bigint.Mul(square, bigint.Of(k)))
		}
	}
	value = bigint.Mul(c[0], power(n))
	for i := 1; i < len(c); i++ {
		value = bigint.Add(value, bigint.Mul(c[i], roots[i]))
		slack = bigint.Add(slack, bigint.Abs(c[i]))
	}
	return value, slack
}

// Floor returns the greatest integer that is at most a number.
func Floor(x api.Num) api.Int {
	if !Valid(x) {
		return api.Int{}
	}
	return floor(x.C, x.D)
}

func floor(c [4]api.Int, d api.Int) api.Int {
	if rational(c) {
		q, _, _ := bigint.DivMod(c[0], d)
		return q
	}
	// An irrational number is no integer, so that both bounds agree in the end.
	for n := firstBits; ; n *= 2 {
		value, slack := approximate(c, n)
		scaled := bigint.Mul(d, power(n))
		lo, _, _ := bigint.DivMod(bigint.Sub(value, slack), scaled)
		hi, _, _ := bigint.DivMod(bigint.Add(value, slack), scaled)
		if lo == hi {
			return lo
		}
	}
}

// Enclose returns the integers around a number times a power of 2.
func Enclose(x api.Num, bits int) (lo, hi api.Int, e api.Errno) {
	if !Valid(x) {
		return api.Int{}, api.Int{}, api.ErrArg
	}
	if bits < 0 || bits > MaxBits {
		return api.Int{}, api.Int{}, api.ErrRange
	}
	var c [4]api.Int
	for i := range c {
		c[i] = bigint.Mul(x.C[i], power(bits))
	}
	lo = floor(c, x.D)
	hi = lo
	if !rational(c) || bigint.Mul(lo, x.D) != c[0] {
		hi = bigint.Add(lo, bigint.Of(1))
	}
	return lo, hi, api.OK
}
