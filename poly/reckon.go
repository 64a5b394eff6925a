package poly

import (
	"annulus/api"
	"annulus/dyad"
	"annulus/gauss"
)

// pairs tells what f makes of p's and q's coefficient at each place.
func pairs(p, q []api.Cplx, f func(a, b api.Cplx) api.Cplx) []api.Cplx {
	p, q = cut(p), cut(q)
	out := make([]api.Cplx, max(len(p), len(q)))
	for i := range out {
		out[i] = f(at(p, i), at(q, i))
	}
	return cut(out)
}

// Add tells the sum.
func Add(p, q []api.Cplx) []api.Cplx { return pairs(p, q, gauss.Add) }

// Sub tells p less q.
func Sub(p, q []api.Cplx) []api.Cplx { return pairs(p, q, gauss.Sub) }

// Mul tells the product.
func Mul(p, q []api.Cplx) []api.Cplx {
	p, q = Trim(p), Trim(q) // noughts below an even M aren't to be multiplied
	product := make([]api.Cplx, len(p)+len(q))
	// Of what is long often little isn't nought: the rest isn't gone through.
rows:
	for i, a := range p {
		for j, b := range q {
			switch {
			case gauss.Zero(a):
				continue rows
			case gauss.Zero(b):
				continue
			}
			product[i+j] = gauss.Add(product[i+j], gauss.Mul(a, b))
		}
	}
	return cut(product)
}

// Deriv tells the derivative.
func Deriv(p []api.Cplx) []api.Cplx {
	p = cut(p)
	out := make([]api.Cplx, max(len(p)-1, 0))
	for i := range out {
		out[i] = gauss.Times(p[i+1], dyad.Of(int64(i+1)))
	}
	return out
}

// Scale tells p of (z times 2 to the power of n).
func Scale(p []api.Cplx, n int) []api.Cplx {
	p = cut(p)
	out := make([]api.Cplx, len(p))
	// Not by gauss's Scale: n is held, its multiples aren't.
	power := dyad.Of(1)
	for i, c := range p {
		out[i] = gauss.Times(c, power)
		power = dyad.Scale(power, n)
	}
	return out
}

// From tells the product of all (z - root).
func From(roots []api.Cplx) []api.Cplx {
	p := []api.Cplx{gauss.Of(1, 0)}
	for _, root := range roots {
		p = Mul(p, []api.Cplx{gauss.Neg(root), gauss.Of(1, 0)})
	}
	return p
}
