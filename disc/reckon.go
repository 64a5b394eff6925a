package disc

import (
	"annulus/api"
	"annulus/dyad"
	"annulus/gauss"
	"annulus/round"
)

// Lengths of a disc.
const (
	far  = iota // from 0 to its middle
	wide        // from there to its border
)

// term: a length of one disc times one of another.
type term struct{ a, b int }

// terms: as far as all of them together a product may lie from that of both
// middles.
var terms = [3]term{{far, wide}, {wide, far}, {wide, wide}}

// lengths: those of a disc by its R and its middle's Norm. A root takes long,
// and far is multiplied by the other one's R alone: where that is 0 it isn't
// asked.
func lengths(r, norm, other api.Dyad, p int) [2]api.Dyad {
	l := [2]api.Dyad{wide: r}
	if dyad.Sign(other) > 0 {
		l[far] = root(norm, p)
	}
	return l
}

// times: what has all products of a and b, which have such lengths.
func times(a, b api.Disc, u, v [2]api.Dyad, p int) api.Disc {
	var r api.Dyad
	for _, t := range terms {
		r = dyad.Add(r, dyad.Mul(u[t.a], v[t.b]))
	}
	return api.Disc{C: gauss.Mul(a.C, b.C), R: round.To(r, p, api.Up)}
}

// Add tells what has all sums.
func Add(a, b api.Disc) api.Disc {
	return api.Disc{C: gauss.Add(a.C, b.C), R: dyad.Add(radius(a), radius(b))}
}

// Neg tells 0 less a.
func Neg(a api.Disc) api.Disc { return api.Disc{C: gauss.Neg(a.C), R: radius(a)} }

// Far tells what isn't less than how far a's middle is from 0, of p bits.
func Far(a api.Disc, p int) api.Dyad {
	// As it is written: noughts below an even M aren't to be multiplied.
	return root(gauss.Norm(gauss.Scale(a.C, 0)), p)
}

// Mul tells what has all products, its R of p bits.
func Mul(a, b api.Disc, p int) api.Disc {
	a, b = counted(a), counted(b)
	u, v := lengths(a.R, gauss.Norm(a.C), b.R, p), lengths(b.R, gauss.Norm(b.C), a.R, p)
	return times(a, b, u, v, p)
}

// Pow tells what has the n-th power of each point of a, its R of p bits.
func Pow(a api.Disc, n, p int) api.Disc {
	a = counted(a)
	re, im := dyad.Mul(a.C.Re, a.C.Re), dyad.Mul(a.C.Im, a.C.Im)
	v := lengths(a.R, dyad.Add(re, im), a.R, p)
	power, norm := Of(gauss.Of(1, 0)), dyad.Of(1)
	for range min(max(n, 0), api.MaxPow) {
		power = times(power, a, lengths(shortened(power.R), norm, a.R, p), v, p)
		// Not by the power's parts: where a's lie far from each other they are
		// long, and their squares would take long.
		norm = dyad.Add(dyad.Mul(norm, re), dyad.Mul(norm, im))
	}
	return power
}
