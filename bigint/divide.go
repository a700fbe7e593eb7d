package bigint

import "math/bits"

// divMags returns the quotient and the rest of two absolute values, the second one not 0.
func divMags(a, b string) (q, r string) {
	if compareMags(a, b) < 0 {
		return "", a
	}
	if len(a) <= 8 {
		x, y := word(a), word(b)
		return wordMag(x / y), wordMag(x % y)
	}
	quotient, rest := divide(split(a), split(b))
	return join(quotient), join(rest)
}

// divideWord divides in place, and returns the rest.
func divideWord(l digits, by uint64) uint64 {
	rest := uint64(0)
	for i := len(l) - 1; i >= 0; i-- {
		l[i], rest = bits.Div64(rest, l[i], by)
	}
	return rest
}

func shifted(l digits, by int) digits {
	out := make(digits, len(l)+1)
	for i, w := range l {
		out[i] |= w << by
		out[i+1] = w >> (64 - by)
	}
	return out
}

// unshift undoes shifted, in place.
func unshift(l digits, by int) digits {
	for i := range l {
		l[i] >>= by
		if i+1 < len(l) {
			l[i] |= l[i+1] << (64 - by)
		}
	}
	return trim(l)
}

// divide returns quotient and rest; b is not empty.
func divide(a, b digits) (q, r digits) {
	if compare(a, b) < 0 {
		return nil, a
	}
	if len(b) == 1 {
		q = append(digits(nil), a...)
		rest := divideWord(q, b[0])
		return trim(q), trim(digits{rest})
	}
	// The divisor's highest bit is set, so that the estimated digits are at most 2 too large.
	shift := bits.LeadingZeros64(b[len(b)-1])
	u, v := shifted(a, shift), trim(shifted(b, shift))
	q = make(digits, len(u)-len(v))
	for j := len(q) - 1; j >= 0; j-- {
		part := u[j : j+len(v)+1]
		digit := estimate(part, v)
		borrow := subtractRow(part, digit, v)
		for borrow > 0 {
			digit--
			borrow -= addBack(part, v)
		}
		q[j] = digit
	}
	return trim(q), unshift(u, shift)
}

func estimate(part, v digits) uint64 {
	n := len(v)
	top := v[n-1]
	if part[n] >= top {
		return 1<<64 - 1
	}
	digit, rest := bits.Div64(part[n], part[n-1], top)
	for {
		hi, lo := bits.Mul64(digit, v[n-2])
		if hi < rest || hi == rest && lo <= part[n-2] {
			return digit
		}
		digit--
		rest += top
		if rest < top {
			return digit
		}
	}
}

// subtractRow takes x times v away, in place, and returns what was borrowed.
func subtractRow(l digits, x uint64, v digits) uint64 {
	carry, borrow := uint64(0), uint64(0)
	for i, w := range v {
		hi, lo := bits.Mul64(x, w)
		lo, c := bits.Add64(lo, carry, 0)
		carry = hi + c
		l[i], borrow = bits.Sub64(l[i], lo, borrow)
	}
	l[len(v)], borrow = bits.Sub64(l[len(v)], carry, borrow)
	return borrow
}

func addBack(l, v digits) uint64 {
	carry := uint64(0)
	for i, w := range v {
		l[i], carry = bits.Add64(l[i], w, carry)
	}
	l[len(v)], carry = bits.Add64(l[len(v)], 0, carry)
	return carry
}

func gcdWords(a, b uint64) uint64 {
	for b > 0 {
		a, b = b, a%b
	}
	return a
}

func gcdMags(a, b string) string {
	if compareMags(a, b) < 0 {
		a, b = b, a
	}
	if b == "" || b == "\x01" {
		if b == "" {
			return a
		}
		return b
	}
	if len(a) <= 8 {
		return wordMag(gcdWords(word(a), word(b)))
	}
	return join(gcd(split(a), split(b)))
}

// gcd needs a not to be less than b. Lehmer's way: many steps of Euclid's are decided by the highest digits alone.
func gcd(a, b digits) digits {
	for len(b) > 1 {
		if m := simulate(a, b); m.v0 != 0 {
			a, b = m.apply(a, b)
		} else {
			_, r := divide(a, b)
			a, b = b, r
		}
	}
	if len(b) == 0 {
		return a
	}
	w := b[0]
	if len(a) > 1 {
		_, r := divide(a, b)
		w = gcdWords(w, word(join(r)))
	} else {
		w = gcdWords(a[0], w)
	}
	return digits{w}
}

// cosequence is the effect of some steps of Euclid's algorithm: (a, b) becomes (u0 a + v0 b, u1 a + v1 b), with alternating signs.
type cosequence struct {
	u0, u1, v0, v1 uint64
	even           bool
}

func simulate(a, b digits) cosequence {
	n, m := len(a), len(b)
	shift := bits.LeadingZeros64(a[n-1])
	a1 := a[n-1]<<shift | a[n-2]>>(64-shift)
	a2 := uint64(0)
	switch {
	case n == m:
		a2 = b[n-1]<<shift | b[n-2]>>(64-shift)
	case n == m+1:
		a2 = b[n-2] >> (64 - shift)
	}
	c := cosequence{u1: 1}
	u2, v2 := uint64(0), uint64(1)
	// Collins' condition keeps the quotients those of the whole numbers.
	for a2 >= v2 && a1-a2 >= c.v1+v2 {
		q := a1 / a2
		a1, a2 = a2, a1%a2
		c.u0, c.u1, u2 = c.u1, u2, c.u1+q*u2
		c.v0, c.v1, v2 = c.v1, v2, c.v1+q*v2
		c.even = !c.even
	}
	return c
}

func (c cosequence) apply(a, b digits) (digits, digits) {
	if c.even {
		return difference(a, c.u0, b, c.v0), difference(b, c.v1, a, c.u1)
	}
	return difference(b, c.v0, a, c.u0), difference(a, c.u1, b, c.v1)
}

// difference returns x a - y b.
func difference(a digits, x uint64, b digits, y uint64) digits {
	l := make(digits, max(len(a), len(b))+1)
	p := product{l}
	p.addRow(0, x, a)
	carry, borrow := uint64(0), uint64(0)
	for i := range l {
		w := uint64(0)
		if i < len(b) {
			w = b[i]
		}
		hi, lo := bits.Mul64(y, w)
		lo, c := bits.Add64(lo, carry, 0)
		carry = hi + c
		l[i], borrow = bits.Sub64(l[i], lo, borrow)
	}
	return trim(l)
}

// rootMag returns the square root, rounded down.
func rootMag(mag string) string {
	return join(root(split(mag)))
}

// root approaches the root from above by Newton's method, beginning with that of the higher half of the digits.
func root(a digits) digits {
	if len(a) == 0 {
		return nil
	}
	low := len(a) / 4
	start := make(digits, len(a)/2+2)
	if low == 0 {
		bitCount := 64*len(a) - bits.LeadingZeros64(a[len(a)-1])
		half := (bitCount + 1) / 2
		start[half/64] = 1 << (half % 64)
	} else {
		addAt(start, root(a[2*low:]), low)
		addAt(start, digits{1}, low)
	}
	now := trim(start)
	for {
		q, _ := divide(a, now)
		next := unshift(sum(q, now), 1)
		if compare(next, now) >= 0 {
			return now
		}
		now = next
	}
}
