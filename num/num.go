// Package num is layer 1: integers of any size, in limbs of nine decimal digits.
package num

import (
	"math"

	"marginalia/api"
)

// Of answers n.
func Of(n int) api.Int {
	size := uint64(n)
	if n < 0 {
		size = -size // wraps round to the right size, for the least int too
	}
	var limbs []uint32
	for ; size > 0; size /= api.Base {
		limbs = append(limbs, uint32(size%api.Base))
	}
	return api.Int{Neg: n < 0, Limbs: limbs}
}

// Sound tells if x has at most MaxLimbs limbs, each below Base, the last one not 0, and is no 0 below 0.
func Sound(x api.Int) bool {
	n := len(x.Limbs)
	if n == 0 {
		return !x.Neg
	}
	if n > api.MaxLimbs || x.Limbs[n-1] == 0 {
		return false
	}
	limb := look(x.Limbs)
	for i := range n {
		if limb(i) >= api.Base {
			return false
		}
	}
	return true
}

// Small answers x as an int, if it is sound and one.
func Small(x api.Int) (int, bool) {
	if !Sound(x) {
		return 0, false
	}
	most := uint64(math.MaxInt)
	if x.Neg {
		most++
	}
	limb, size := look(x.Limbs), uint64(0)
	for i := len(x.Limbs) - 1; i >= 0; i-- {
		if size > (most-limb(i))/api.Base {
			return 0, false
		}
		size = size*api.Base + limb(i)
	}
	if x.Neg {
		return int(-size), true
	}
	return int(size), true
}

// Cmp answers -1, 0 or 1, as a is below b, the same, or above; 0, if one is not sound.
func Cmp(a, b api.Int) int {
	switch {
	case !Sound(a) || !Sound(b):
		return 0
	case a.Neg && b.Neg:
		return compare(b.Limbs, a.Limbs)
	case a.Neg:
		return -1
	case b.Neg:
		return 1
	}
	return compare(a.Limbs, b.Limbs)
}

// Add answers the sum.
func Add(a, b api.Int) (api.Int, api.Errno) {
	switch {
	case !Sound(a) || !Sound(b):
		return api.Int{}, api.ErrForm
	case a.Neg == b.Neg:
		return made(a.Neg, plus(a.Limbs, b.Limbs))
	case compare(a.Limbs, b.Limbs) >= 0:
		return made(a.Neg, minus(a.Limbs, b.Limbs))
	}
	return made(b.Neg, minus(b.Limbs, a.Limbs))
}

// Sub answers the difference.
func Sub(a, b api.Int) (api.Int, api.Errno) {
	if !Sound(b) { // asked ahead of the other sign: that of an unsound 0 would be sound
		return api.Int{}, api.ErrForm
	}
	return Add(a, api.Int{Neg: !b.Neg && len(b.Limbs) > 0, Limbs: b.Limbs})
}

// Mul answers the product.
func Mul(a, b api.Int) (api.Int, api.Errno) {
	if !Sound(a) || !Sound(b) {
		return api.Int{}, api.ErrForm
	}
	return made(a.Neg != b.Neg, times(a.Limbs, b.Limbs))
}

// Divide answers a by b, cut towards 0, and the rest, which has a's sign or is 0.
func Divide(a, b api.Int) (q, r api.Int, e api.Errno) {
	if !Sound(a) || !Sound(b) {
		return q, r, api.ErrForm
	}
	if len(b.Limbs) == 0 {
		return q, r, api.ErrZero
	}
	whole, rest := split(a.Limbs, b.Limbs)
	q, _ = made(a.Neg != b.Neg, whole)
	r, _ = made(a.Neg, rest)
	return q, r, api.OK
}

// Modulo answers a less b times a / b cut downwards: it has b's sign, or is 0.
func Modulo(a, b api.Int) (api.Int, api.Errno) {
	_, r, e := Divide(a, b)
	if e != api.OK {
		return api.Int{}, e
	}
	if len(r.Limbs) == 0 || r.Neg == b.Neg {
		return r, api.OK
	}
	return Add(r, b)
}

// made answers the integer of limbs, which has them for its own, without the noughts ahead.
func made(neg bool, limbs []uint32) (api.Int, api.Errno) {
	limbs = trim(limbs)
	switch {
	case len(limbs) > api.MaxLimbs:
		return api.Int{}, api.ErrLarge
	case len(limbs) == 0:
		return api.Int{}, api.OK
	}
	return api.Int{Neg: neg, Limbs: limbs}, api.OK
}
