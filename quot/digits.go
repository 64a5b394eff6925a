package quot

import (
	"slices"

	"annulus/nat"
)

// limb: how many bits a limb has. A digit is a limb.
const limb = 32

// scaled: the floor of a times 2 to the power of n. Whole limbs are put and left
// out here: nat's shifts are held, and a number may be longer than that.
func scaled(a []uint32, n int) []uint32 {
	if n >= 0 {
		return nat.Shl(append(make([]uint32, n/limb), a...), n%limb)
	}
	skip := min(-n/limb, len(a))
	return nat.Shr(a[skip:], -n%limb)
}

// quotient tells the digits of a by b, and whether something is left. Neither
// has noughts on top, b isn't 0.
func quotient(a, b []uint32) ([]uint32, bool) {
	i := max(len(a)-len(b)+1, 0)
	digits, rest := make([]uint32, i), a[i:] // less than b: there is no digit above
next:
	if i > 0 {
		i--
		var digit []uint32
		digit, rest, _ = nat.Div(above(rest, a[i]), b)
		copy(digits[i:], digit)
		goto next
	}
	return digits, len(rest) > 0
}

// root tells the digits of the square root of a, which has no noughts on top,
// and whether something is left.
func root(a []uint32) ([]uint32, bool) {
	// Each digit takes two limbs of a. Only behind two digits the guess of what
	// follows is near.
	i := 2 * max((len(a)+1)/2-2, 0)
	digits := nat.Root(a[i:])
	rest, _ := nat.Sub(a[i:], nat.Mul(digits, digits))
next:
	if i > 0 {
		n := min(len(digits)-1, i/2)
		i -= 2 * n
		digits, rest = follow(digits, above(rest, a[i:i+2*n]...), n)
		goto next
	}
	return digits, len(rest) > 0
}

// follow tells the digits of a root and the n behind them, fewer than they are,
// and what is then left of rest.
func follow(digits, rest []uint32, n int) ([]uint32, []uint32) {
	twice, room := nat.Shl(digits, 1), make([]uint32, n)
	guess, _, _ := nat.Div(rest[n:], twice)
again:
	// The square is so much more with the guess than without it.
	more := nat.Mul(nat.Add(above(twice, room...), guess), guess)
	left, ok := nat.Sub(rest, more)
	if !ok {
		// The guess took no account of its own square: it is right or one too
		// great.
		guess, _ = nat.Sub(guess, []uint32{1})
		goto again
	}
	return nat.Add(above(digits, room...), guess), left
}

// above: a moved upwards by as many limbs as are put below it.
func above(a []uint32, low ...uint32) []uint32 { return slices.Concat(low, a) }
