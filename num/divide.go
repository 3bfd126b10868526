package num

import (
	"slices"

	"marginalia/api"
)

// split answers how often b, which is not 0, goes into a, and the rest, by long division limb by limb.
func split(a, b []uint32) (whole, rest []uint32) {
	if len(a) < len(b) {
		return nil, slices.Clone(a)
	}
	// With both made greater so that b's last limb is at least half of Base, a guess is at most 2 too high.
	scale := uint32(api.Base / (uint64(b[len(b)-1]) + 1))
	rest = times(a, []uint32{scale})
	by := trim(times(b, []uint32{scale}))
	whole = make([]uint32, len(a)-len(b)+1)
	for i := len(whole) - 1; i >= 0; i-- {
		whole[i] = goes(rest[i:i+len(by)+1], by)
	}
	return whole, shrink(rest[:len(by)], uint64(scale))
}

// goes answers how often by goes into part, which is one limb longer and below Base times by, and leaves the rest in it.
func goes(part, by []uint32) uint32 {
	n := len(by)
	guess := min((uint64(part[n])*api.Base+uint64(part[n-1]))/uint64(by[n-1]), api.Base-1)
	for below := takeAway(part, by, guess); below; guess-- {
		below = !putBack(part, by)
	}
	return uint32(guess)
}

// takeAway takes by, so many times, from part, and tells if that went below 0 (part has then gone round once).
func takeAway(part, by []uint32, many uint64) bool {
	limb, short := look(by), uint64(0)
	for i := range part {
		t := limb(i)*many + short
		low := uint32(t % api.Base)
		short = t / api.Base
		if part[i] < low {
			part[i] += api.Base
			short++
		}
		part[i] -= low
	}
	return short > 0
}

// putBack puts by back to part, and tells if it came round to 0 or above.
func putBack(part, by []uint32) bool {
	limb, carry := look(by), uint64(0)
	for i := range part {
		t := uint64(part[i]) + limb(i) + carry
		part[i], carry = uint32(t%api.Base), t/api.Base
	}
	return carry > 0
}

// shrink answers the limbs by scale, which goes into them without a rest.
func shrink(limbs []uint32, scale uint64) []uint32 {
	less, rest := make([]uint32, len(limbs)), uint64(0)
	for i := len(limbs) - 1; i >= 0; i-- {
		t := rest*api.Base + uint64(limbs[i])
		less[i], rest = uint32(t/scale), t%scale
	}
	return less
}
