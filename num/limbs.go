package num

import "marginalia/api"

// look answers what tells the limb at a place, 0 behind the last one: so limbs of two lengths can be gone through together.
func look(limbs []uint32) func(i int) uint64 {
	return func(i int) uint64 {
		if i >= len(limbs) {
			return 0
		}
		return uint64(limbs[i])
	}
}

// trim leaves out the noughts at the end.
func trim(limbs []uint32) []uint32 {
	n := len(limbs)
	for n > 0 && limbs[n-1] == 0 {
		n--
	}
	return limbs[:n]
}

// compare answers -1, 0 or 1, as a is below b, the same, or above, their signs left out.
func compare(a, b []uint32) int {
	left, right := look(a), look(b)
	for i := max(len(a), len(b)) - 1; i >= 0; i-- {
		switch {
		case left(i) < right(i):
			return -1
		case left(i) > right(i):
			return 1
		}
	}
	return 0
}

// plus answers a and b together.
func plus(a, b []uint32) []uint32 {
	left, right := look(a), look(b)
	sum := make([]uint32, max(len(a), len(b))+1)
	carry := uint64(0)
	for i := range sum {
		t := left(i) + right(i) + carry
		sum[i], carry = uint32(t%api.Base), t/api.Base
	}
	return sum
}

// minus answers a less b, which is not above a.
func minus(a, b []uint32) []uint32 {
	left, right := look(a), look(b)
	rest := make([]uint32, len(a))
	short := uint64(0)
	for i := range rest {
		t := left(i) + api.Base - right(i) - short
		rest[i], short = uint32(t%api.Base), 1-t/api.Base
	}
	return rest
}

// times answers a times b.
func times(a, b []uint32) []uint32 {
	left, right := look(a), look(b)
	product := make([]uint32, len(a)+len(b))
	for i := range a {
		carry := uint64(0)
		for j := range len(b) + 1 {
			t := uint64(product[i+j]) + left(i)*right(j) + carry
			product[i+j], carry = uint32(t%api.Base), t/api.Base
		}
	}
	return product
}
