// Package bigint implements layer 1: integers of any size. See shared/doc/01-bigint.md.
package bigint

import (
	"math"

	"culet/api"
)

// The limits of powers.
const (
	MaxPower = 100
	MaxBytes = 4000
)

// Valid reports whether an integer is valid.
func Valid(a api.Int) bool {
	if a.Mag == "" {
		return !a.Neg
	}
	return a.Mag[0] != 0
}

func valid(l ...api.Int) bool {
	for _, a := range l {
		if !Valid(a) {
			return false
		}
	}
	return true
}

// signed gives 0 its only valid form.
func signed(neg bool, mag string) api.Int {
	return api.Int{Neg: neg && mag != "", Mag: mag}
}

// Of returns a machine integer.
func Of(n int) api.Int {
	return signed(n < 0, wordMag(absolute(n)))
}

func absolute(n int) uint64 {
	if n < 0 {
		return -uint64(n)
	}
	return uint64(n)
}

// Int64 returns an integer as a machine integer, and whether it is one.
func Int64(a api.Int) (int, bool) {
	if !Valid(a) || len(a.Mag) > 8 {
		return 0, false
	}
	w := word(a.Mag)
	switch {
	case a.Neg && w <= 1<<63:
		return int(-w), true
	case !a.Neg && w <= math.MaxInt64:
		return int(w), true
	}
	return 0, false
}

// Add returns a sum, Sub a difference, and Mul a product.
func Add(a, b api.Int) api.Int {
	if !valid(a, b) {
		return api.Int{}
	}
	if a.Neg == b.Neg {
		return signed(a.Neg, addMags(a.Mag, b.Mag))
	}
	switch compareMags(a.Mag, b.Mag) {
	case 1:
		return signed(a.Neg, subMags(a.Mag, b.Mag))
	case -1:
		return signed(b.Neg, subMags(b.Mag, a.Mag))
	}
	return api.Int{}
}

func Sub(a, b api.Int) api.Int {
	if !valid(a, b) {
		return api.Int{}
	}
	return Add(a, Neg(b))
}

func Mul(a, b api.Int) api.Int {
	if !valid(a, b) {
		return api.Int{}
	}
	return signed(a.Neg != b.Neg, mulMags(a.Mag, b.Mag))
}

// Neg returns the opposite, and Abs the absolute value.
func Neg(a api.Int) api.Int {
	if !Valid(a) {
		return api.Int{}
	}
	return signed(!a.Neg, a.Mag)
}

func Abs(a api.Int) api.Int {
	if !Valid(a) {
		return api.Int{}
	}
	return signed(false, a.Mag)
}

// Sign returns the sign, and Cmp compares two integers.
func Sign(a api.Int) int {
	switch {
	case !Valid(a) || a.Mag == "":
		return 0
	case a.Neg:
		return -1
	}
	return 1
}

func Cmp(a, b api.Int) int {
	if !valid(a, b) {
		return 0
	}
	if a.Neg != b.Neg {
		if a.Neg {
			return -1
		}
		return 1
	}
	if a.Neg {
		return compareMags(b.Mag, a.Mag)
	}
	return compareMags(a.Mag, b.Mag)
}

// Bits returns the number of binary digits.
func Bits(a api.Int) int {
	if !Valid(a) || a.Mag == "" {
		return 0
	}
	n := 8 * (len(a.Mag) - 1)
	for top := a.Mag[0]; top > 0; top >>= 1 {
		n++
	}
	return n
}

// DivMod returns the quotient rounded down, and the remainder.
func DivMod(a, b api.Int) (q, r api.Int, e api.Errno) {
	if !valid(a, b) {
		return api.Int{}, api.Int{}, api.ErrArg
	}
	if b.Mag == "" {
		return api.Int{}, api.Int{}, api.ErrDiv
	}
	quotient, rest := divMags(a.Mag, b.Mag)
	q, r = signed(a.Neg != b.Neg, quotient), signed(a.Neg, rest)
	if r.Mag != "" && a.Neg != b.Neg {
		// The machine's way rounds towards 0: one step further down is wanted.
		q, r = Sub(q, Of(1)), Add(r, b)
	}
	return q, r, api.OK
}

// Gcd returns the greatest common divisor.
func Gcd(a, b api.Int) api.Int {
	if !valid(a, b) {
		return api.Int{}
	}
	return signed(false, gcdMags(a.Mag, b.Mag))
}

// Pow returns a power.
func Pow(a api.Int, k int) (api.Int, api.Errno) {
	switch {
	case !Valid(a):
		return api.Int{}, api.ErrArg
	case k < 0 || k > MaxPower:
		return api.Int{}, api.ErrRange
	case len(a.Mag) > MaxBytes:
		return api.Int{}, api.ErrLimit
	}
	power := Of(1)
	for bit := 64; bit > 0; bit >>= 1 {
		power = Mul(power, power)
		if k&bit != 0 {
			power = Mul(power, a)
		}
	}
	return power, api.OK
}

// Sqrt returns the square root, rounded down.
func Sqrt(a api.Int) (api.Int, api.Errno) {
	if !Valid(a) {
		return api.Int{}, api.ErrArg
	}
	if a.Neg {
		return api.Int{}, api.ErrRange
	}
	return signed(false, rootMag(a.Mag)), api.OK
}
