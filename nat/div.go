package nat

import (
	"math"
	"math/bits"
)

// Div tells the quotient and the rest; false of b 0.
func Div(a, b []uint32) ([]uint32, []uint32, bool) {
	a, b = cut(a), cut(b)
	if len(b) == 0 {
		return nil, nil, false
	}
	if Cmp(a, b) < 0 {
		return nil, Trim(a), true
	}
	if len(b) == 1 {
		quotient, rest := divLimb(a, b[0])
		return quotient, rest, true
	}
	quotient, rest := divLong(a, b)
	return quotient, rest, true
}

// divLimb divides by one limb: its digits need no guess.
func divLimb(a []uint32, b uint32) ([]uint32, []uint32) {
	quotient := make([]uint32, len(a))
	var rest uint32
	for i := len(a) - 1; i >= 0; i-- {
		quotient[i], rest = bits.Div32(rest, a[i], b)
	}
	return cut(quotient), cut([]uint32{rest})
}

// divLong divides by two limbs or more, a no less than b. Both are shifted
// until b's topmost bit is set: only then a guess is near.
func divLong(a, b []uint32) ([]uint32, []uint32) {
	n := len(b)
	shift := bits.LeadingZeros32(b[n-1])
	left, by := up(a, shift), up(b, shift)[:n]
	quotient := make([]uint32, len(a)-n+1)
	for i := len(quotient) - 1; i >= 0; i-- {
		part := left[i : i+n+1]
		digit := guess(part, by)
		if takeTimes(part, by, digit) {
			// The limbs below those that were asked made it one too great.
			digit--
			putBack(part, by)
		}
		quotient[i] = digit
	}
	return cut(quotient), cut(down(left[:n], shift))
}

// guess tells a digit of the quotient of part by b, which is one limb shorter,
// by their topmost limbs alone: it is right or one too great.
func guess(part, b []uint32) uint32 {
	n := len(b)
	top, next := uint64(b[n-1]), uint64(b[n-2])
	whole := uint64(part[n])<<limb | uint64(part[n-1])
	digit, rest := whole/top, whole%top
again:
	if digit > math.MaxUint32 || digit*next > rest<<limb|uint64(part[n-2]) {
		digit--
		rest += top
		// With a rest of more than a limb these limbs can't tell that it is
		// too great any more, and the shift above would lose bits.
		if rest <= math.MaxUint32 {
			goto again
		}
	}
	return uint32(digit)
}

// takeTimes takes b times d from part, which is one limb longer; true, if that
// was more than part: then part has gone round.
func takeTimes(part, b []uint32, d uint32) bool {
	var carry uint64
	var borrow uint32
	for i, y := range b {
		carry += uint64(d) * uint64(y)
		part[i], borrow = bits.Sub32(part[i], uint32(carry), borrow)
		carry >>= limb
	}
	n := len(b)
	part[n], borrow = bits.Sub32(part[n], uint32(carry), borrow)
	return borrow != 0
}

// putBack adds b to part, which is one limb longer and goes round again.
func putBack(part, b []uint32) {
	var carry uint32
	for i, y := range b {
		part[i], carry = bits.Add32(part[i], y, carry)
	}
	part[len(b)] += carry
}
