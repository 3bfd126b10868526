package num

import (
	"strconv"
	"strings"

	"marginalia/api"
)

// width is how many decimal digits a limb has.
const width = 9

// Text answers x's decimal digits, with - ahead of what is below 0; empty, if x is not sound.
func Text(x api.Int) string {
	switch {
	case !Sound(x):
		return ""
	case len(x.Limbs) == 0:
		return "0"
	}
	var b strings.Builder
	if x.Neg {
		b.WriteByte('-')
	}
	last := len(x.Limbs) - 1
	b.WriteString(strconv.Itoa(int(x.Limbs[last])))
	limb := look(x.Limbs)
	for i := last - 1; i >= 0; i-- {
		b.WriteString(strconv.Itoa(int(api.Base + limb(i)))[1:]) // the 1 of Base keeps the limb's noughts
	}
	return b.String()
}

// Parse answers the integer of a text of an optional sign and at least one decimal digit; false, if it is none, or has too many limbs.
func Parse(s string) (api.Int, bool) {
	digits := s
	if s != "" && (s[0] == '+' || s[0] == '-') {
		digits = s[1:]
	}
	if digits == "" || !decimal(digits) {
		return api.Int{}, false
	}
	digits = strings.TrimLeft(digits, "0")
	if len(digits) > api.MaxLimbs*width {
		return api.Int{}, false
	}
	x, _ := made(s[0] == '-', cut(digits))
	return x, true
}

// decimal tells if s has decimal digits alone.
func decimal(s string) bool {
	for i := range len(s) {
		if s[i] < '0' || s[i] > '9' {
			return false
		}
	}
	return true
}

// cut answers the limbs of decimal digits.
func cut(digits string) []uint32 {
	var limbs []uint32
	for end := len(digits); end > 0; end -= width {
		limb := uint32(0)
		for i := max(0, end-width); i < end; i++ {
			limb = limb*10 + uint32(digits[i]-'0')
		}
		limbs = append(limbs, limb)
	}
	return limbs
}
