package round

import (
	"math"

	"annulus/api"
	"annulus/dyad"
	"annulus/whole"
)

// limb: how many bits a limb has.
const limb = 32

// farthest: an exponent beyond it is held there, so that no sum of exponents
// goes round.
const farthest = math.MaxInt / 2

// held: n, or the one of -most and most that it lies beyond.
func held(n, most int) int { return min(max(n, -most), most) }

// written: x as it is written, in new memory. Only M is made by dyad, whose
// calls say nothing of exponents far out, while there a number still lies on
// one side of another.
func written(x api.Dyad) api.Dyad {
	m := dyad.Make(x.M, 0)
	if dyad.Sign(m) == 0 {
		return m
	}
	return api.Dyad{M: m.M, E: held(x.E, farthest) + m.E}
}

// lies tells whether x, as it is written, is a whole multiple of 2 to the power
// of e.
func lies(x api.Dyad, e int) bool { return dyad.Sign(x) == 0 || x.E >= e }

// without: m's Mag without its n lowest bits. Whole limbs are left out here:
// whole's shifts are held, and a number may have more bits than that.
func without(m api.Int, n int) api.Int {
	skip := min(n/limb, len(m.Mag))
	return whole.Shr(api.Int{Mag: m.Mag[skip:]}, n%limb)
}
