package nat

import "math/bits"

// mostShift: beyond it the exported shifts are held. The program's own aren't,
// as numbers may be longer.
const mostShift = 100000

// Shl tells a shifted upwards by n bits.
func Shl(a []uint32, n int) []uint32 {
	a = cut(a)
	if len(a) == 0 {
		return nil
	}
	return cut(up(a, held(n)))
}

// Shr tells a shifted downwards by n bits; what falls out is gone.
func Shr(a []uint32, n int) []uint32 { return cut(down(cut(a), held(n))) }

// held: n, as a shift may be.
func held(n int) int { return min(max(n, 0), mostShift) }

// up: a shifted upwards by n bits. There is always one limb more than a and
// the whole limbs of n take, as division needs it.
func up(a []uint32, n int) []uint32 {
	skip, shift := n/limb, n%limb
	out := make([]uint32, len(a)+skip+1)
	for i, x := range a {
		out[skip+i] |= x << shift
		out[skip+i+1] = x >> (limb - shift)
	}
	return out
}

// down: a shifted downwards by n bits.
func down(a []uint32, n int) []uint32 {
	skip, shift := n/limb, n%limb
	if skip >= len(a) {
		return nil
	}
	out := make([]uint32, len(a)-skip)
	for i := range out {
		out[i] = a[skip+i]>>shift | at(a, skip+i+1)<<(limb-shift)
	}
	return out
}

// Bits tells how many bits a has.
func Bits(a []uint32) int {
	a = cut(a)
	if len(a) == 0 {
		return 0
	}
	return limb*(len(a)-1) + bits.Len32(a[len(a)-1])
}

// Low tells how many of a's lowest bits are 0; 0 of 0.
func Low(a []uint32) int {
	for i, x := range a {
		if x != 0 {
			return limb*i + bits.TrailingZeros32(x)
		}
	}
	return 0
}
