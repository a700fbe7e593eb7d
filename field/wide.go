package field

import (
	"math/bits"

	"culet/api"
)

// wideBytes is the number of bytes of integers whose products can be added up as wide integers.
const wideBytes = 7

// wide is an integer of 128 bits in two's complement.
type wide struct{ hi, lo uint64 }

// add adds a product.
func (w wide) add(x, y int) wide {
	hi, lo := bits.Mul64(uint64(x), uint64(y))
	if x < 0 {
		hi -= uint64(y)
	}
	if y < 0 {
		hi -= uint64(x)
	}
	carry := uint64(0)
	w.lo, carry = bits.Add64(w.lo, lo, 0)
	w.hi += hi + carry
	return w
}

func (w wide) opposite() wide {
	lo, borrow := bits.Sub64(0, w.lo, 0)
	hi, _ := bits.Sub64(0, w.hi, borrow)
	return wide{hi, lo}
}

func (w wide) less(v wide) bool {
	if w.hi != v.hi {
		return int64(w.hi) < int64(v.hi)
	}
	return w.lo < v.lo
}

func (w wide) integer() api.Int {
	neg := int64(w.hi) < 0
	if neg {
		w = w.opposite()
	}
	var buffer [16]byte
	at := len(buffer)
	for ; w.hi > 0; w = (wide{w.hi >> 8, w.lo>>8 | w.hi<<56}) {
		at--
		buffer[at] = byte(w.lo)
	}
	for ; w.lo > 0; w.lo >>= 8 {
		at--
		buffer[at] = byte(w.lo)
	}
	return api.Int{Neg: neg, Mag: string(buffer[at:])}
}

// leading returns an integer without its last bytes.
func leading(x api.Int, cutOff int) int {
	n := 0
	for i := 0; i < len(x.Mag)-cutOff; i++ {
		n = n<<8 | int(x.Mag[i])
	}
	if x.Neg {
		return -n
	}
	return n
}

// multiplyWide multiplies numerators, if all of their coefficients are short.
func multiplyWide(x, y [4]api.Int) (c [4]api.Int, ok bool) {
	var a, b [4]int
	for i := range x {
		if len(x[i].Mag) > wideBytes || len(y[i].Mag) > wideBytes {
			return c, false
		}
		a[i], b[i] = leading(x[i], 0), leading(y[i], 0)
	}
	var sums [4]wide
	for i, m := range a {
		if m == 0 {
			continue
		}
		for k, n := range b {
			p := products[i][k]
			sums[p.root] = sums[p.root].add(m*p.factor, n)
		}
	}
	for i, w := range sums {
		c[i] = w.integer()
	}
	return c, true
}
