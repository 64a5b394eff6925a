package disc

import (
	"annulus/api"
	"annulus/dyad"
	"annulus/quot"
)

const (
	limb = 32 // how many bits a limb has
	// enough: limbs of a Norm that tell more of its root than this is rounded
	// to.
	enough = 2*api.MaxBits/limb + 2
	// farthest: Norms of points with exponents of which dyad promises something
	// lie below 2 to that power.
	farthest = 1 << 22
)

// square: the square of x and y together.
func square(x, y api.Dyad) api.Dyad {
	sum := dyad.Add(x, y)
	if len(sum.M.Mag) <= len(x.M.Mag)+len(y.M.Mag)+1 {
		return dyad.Mul(sum, sum)
	}
	// They lie so far from each other that their sum is longer than they are:
	// its square would take long, other products don't.
	squares := dyad.Add(dyad.Mul(x, x), dyad.Mul(y, y))
	return dyad.Add(squares, dyad.Scale(dyad.Mul(x, y), 1))
}

// between: the square of how far a and b are from each other.
func between(a, b api.Cplx) api.Dyad {
	return dyad.Add(square(a.Re, dyad.Neg(b.Re)), square(a.Im, dyad.Neg(b.Im)))
}

// root: the square root of a Norm, rounded up to p bits.
func root(norm api.Dyad, p int) api.Dyad {
	r, _ := quot.Root(shortened(norm), p, api.Up)
	return r
}

// shortened: x, which isn't below 0; or a little more, of few limbs, where it
// lies so far up that roots and products of a long one would have a bit for
// each place from there down.
func shortened(x api.Dyad) api.Dyad {
	gone := len(x.M.Mag) - enough
	if gone <= 0 || dyad.Top(x) <= farthest {
		return x
	}
	unit := x.E + gone*limb
	top := api.Dyad{M: api.Int{Mag: x.M.Mag[gone:]}, E: unit}
	return dyad.Add(top, api.Dyad{M: api.Int{Mag: []uint32{1}}, E: unit})
}
