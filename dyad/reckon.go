package dyad

import (
	"annulus/api"
	"annulus/whole"
)

// widest: where two exponents lie farther from each other, a sum is reckoned
// as if they lay just so far: it would need memory for each bit between them.
// The document promises nothing of exponents that do.
const widest = 1 << 24

// Add tells the sum.
func Add(x, y api.Dyad) api.Dyad {
	// The exponent of 0 says nothing: it must not be aligned.
	if Sign(x) == 0 {
		return written(y)
	}
	if Sign(y) == 0 {
		return written(x)
	}
	x, y = taken(x), taken(y)
	x.E, y.E = min(x.E, y.E+widest), min(y.E, x.E+widest)
	a, b, e := aligned(x, y)
	return told(whole.Add(a, b), e)
}

// Sub tells x less y.
func Sub(x, y api.Dyad) api.Dyad { return Add(x, Neg(y)) }

// Mul tells the product.
func Mul(x, y api.Dyad) api.Dyad {
	return told(whole.Mul(x.M, y.M), taken(x).E+taken(y).E)
}

// Neg tells 0 less x.
func Neg(x api.Dyad) api.Dyad { return told(whole.Neg(x.M), taken(x).E) }

// Abs tells how far x is from 0.
func Abs(x api.Dyad) api.Dyad {
	return written(api.Dyad{M: api.Int{Mag: x.M.Mag}, E: x.E})
}

// Scale tells x times 2 to the power of n.
func Scale(x api.Dyad, n int) api.Dyad {
	return told(whole.Norm(x.M), taken(x).E+held(n, api.MaxE))
}

// Pow tells x to the power of n.
func Pow(x api.Dyad, n int) api.Dyad {
	n = min(max(n, 0), api.MaxPow)
	x = written(x) // noughts below an even M aren't to be multiplied
	power := whole.Of(1)
	for range n {
		power = whole.Mul(power, x.M)
	}
	return told(power, n*x.E)
}
