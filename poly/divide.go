package poly

import (
	"slices"

	"annulus/api"
	"annulus/gauss"
)

// divide puts into p's place what p is by z - r: lowest what is left, above it
// the quotient.
func divide(p []api.Cplx, r api.Cplx) {
	for i := len(p) - 2; i >= 0; i-- {
		p[i] = gauss.Add(p[i], gauss.Mul(p[i+1], r))
	}
}

// At tells p's value at z.
func At(p []api.Cplx, z api.Cplx) api.Cplx {
	z = written(z) // noughts below an even M aren't to be multiplied
	// It is what is left by z - it; but of a long p the quotient would need much
	// more memory than the value does.
	var value api.Cplx
	for _, c := range slices.Backward(p) {
		value = gauss.Add(gauss.Mul(value, z), c)
	}
	return value
}

// Part tells q and c such that p is q (z - r) + c.
func Part(p []api.Cplx, r api.Cplx) ([]api.Cplx, api.Cplx) {
	p = Trim(p)
	if len(p) == 0 {
		return nil, api.Cplx{}
	}
	divide(p, written(r))
	return p[1:], p[0]
}

// Shift tells p of (z + c).
func Shift(p []api.Cplx, c api.Cplx) []api.Cplx {
	p = Trim(p)
	if gauss.Zero(c) {
		return p
	}
	c = written(c)
	// What is left of p by z - c is the lowest coefficient, what is left of the
	// quotient is the next one, and so on.
	for i := range p {
		divide(p[i:], c)
	}
	return p
}
