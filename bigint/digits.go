package bigint

import "math/bits"

// digits are the digits to the base 2^64 of a number without sign, the least significant one first, without zeros at the end.
type digits []uint64

// word returns the number of at most 8 bytes.
func word(mag string) uint64 {
	w := uint64(0)
	for i := 0; i < len(mag); i++ {
		w = w<<8 | uint64(mag[i])
	}
	return w
}

func wordMag(w uint64) string {
	var buffer [8]byte
	at := len(buffer)
	for ; w > 0; w >>= 8 {
		at--
		buffer[at] = byte(w)
	}
	return string(buffer[at:])
}

func split(mag string) digits {
	l := make(digits, (len(mag)+7)/8)
	for i := range l {
		end := len(mag) - 8*i
		l[i] = word(mag[max(0, end-8):end])
	}
	return l
}

func trim(l digits) digits {
	for len(l) > 0 && l[len(l)-1] == 0 {
		l = l[:len(l)-1]
	}
	return l
}

func join(l digits) string {
	l = trim(l)
	var small [64]byte
	buffer := small[:]
	if 8*len(l) > len(small) {
		buffer = make([]byte, 8*len(l))
	}
	at := len(buffer)
	for _, w := range l {
		for range 8 {
			at--
			buffer[at] = byte(w)
			w >>= 8
		}
	}
	for at < len(buffer) && buffer[at] == 0 {
		at++
	}
	return string(buffer[at:])
}

// compareMags uses that bytes without leading zeros are ordered by their length first.
func compareMags(a, b string) int {
	switch {
	case len(a) != len(b):
		if len(a) < len(b) {
			return -1
		}
		return 1
	case a < b:
		return -1
	case a > b:
		return 1
	}
	return 0
}

func compare(a, b digits) int {
	if len(a) != len(b) {
		if len(a) < len(b) {
			return -1
		}
		return 1
	}
	for i := len(a) - 1; i >= 0; i-- {
		if a[i] != b[i] {
			if a[i] < b[i] {
				return -1
			}
			return 1
		}
	}
	return 0
}

func addMags(a, b string) string {
	if a == "" {
		return b
	}
	if b == "" {
		return a
	}
	if len(a) < 8 && len(b) < 8 {
		return wordMag(word(a) + word(b))
	}
	if len(a) < len(b) {
		a, b = b, a
	}
	sum, other := append(split(a), 0), split(b)
	carry := uint64(0)
	for i := range sum {
		w := uint64(0)
		if i < len(other) {
			w = other[i]
		}
		sum[i], carry = bits.Add64(sum[i], w, carry)
	}
	return join(sum)
}

// subMags needs a not to be less than b.
func subMags(a, b string) string {
	if b == "" {
		return a
	}
	if len(a) <= 8 {
		return wordMag(word(a) - word(b))
	}
	rest := split(a)
	subtract(rest, split(b))
	return join(rest)
}

// subtract takes b away from a, in place, and returns what was borrowed beyond a.
func subtract(a, b digits) uint64 {
	borrow := uint64(0)
	for i := range a {
		w := uint64(0)
		if i < len(b) {
			w = b[i]
		}
		a[i], borrow = bits.Sub64(a[i], w, borrow)
	}
	return borrow
}

// product collects the digits of a product.
type product struct{ l digits }

// addRow adds x times y times 2^(64 at).
func (p *product) addRow(at int, x uint64, y digits) {
	carry := uint64(0)
	for i, w := range y {
		hi, lo := bits.Mul64(x, w)
		var c uint64
		lo, c = bits.Add64(lo, carry, 0)
		hi += c
		p.l[at+i], c = bits.Add64(p.l[at+i], lo, 0)
		carry = hi + c
	}
	p.l[at+len(y)] = carry
}

func multiply(a, b digits) digits {
	if len(a) >= karatsuba && len(b) >= karatsuba {
		return multiplyLarge(a, b)
	}
	p := product{make(digits, len(a)+len(b))}
	add := p.addRow
	for i, w := range a {
		add(i, w, b)
	}
	return trim(p.l)
}

func mulMags(a, b string) string {
	if a == "" || b == "" {
		return ""
	}
	if len(a) <= 8 && len(b) <= 8 {
		hi, lo := bits.Mul64(word(a), word(b))
		if hi == 0 {
			return wordMag(lo)
		}
		return join(digits{lo, hi})
	}
	return join(multiply(split(a), split(b)))
}

// karatsuba is the number of digits from which on three products of halves are faster than four.
const karatsuba = 40

func multiplyLarge(a, b digits) digits {
	half := max(len(a), len(b)) / 2
	a0, a1 := halves(a, half)
	b0, b1 := halves(b, half)
	low, high := multiply(a0, b0), multiply(a1, b1)
	middle := multiply(sum(a0, a1), sum(b0, b1))
	subtract(middle, low)
	subtract(middle, high)
	l := make(digits, len(a)+len(b)+1)
	copy(l, low)
	addAt(l, high, 2*half)
	addAt(l, trim(middle), half)
	return trim(l)
}

func halves(l digits, at int) (low, high digits) {
	if len(l) <= at {
		return l, nil
	}
	return trim(l[:at]), l[at:]
}

func sum(a, b digits) digits {
	l := make(digits, max(len(a), len(b))+1)
	copy(l, a)
	addAt(l, b, 0)
	return trim(l)
}

// addAt adds b times 2^(64 at) to a, in place.
func addAt(a, b digits, at int) {
	carry := uint64(0)
	for i := at; i < len(a) && (i-at < len(b) || carry > 0); i++ {
		w := uint64(0)
		if i-at < len(b) {
			w = b[i-at]
		}
		a[i], carry = bits.Add64(a[i], w, carry)
	}
}
