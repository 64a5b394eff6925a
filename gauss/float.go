package gauss

import (
	"math"

	"annulus/api"
	"annulus/dyad"
)

const (
	limb  = 32 // how many bits a limb has
	digit = 53 // how many bits a float's fraction has
)

// Float tells a complex128 near a.
func Float(a api.Cplx) complex128 { return complex(float(a.Re), float(a.Im)) }

// Exact tells the point that c is; false, if a part is infinite or no number.
func Exact(c complex128) (api.Cplx, bool) {
	re, ok := exact(real(c))
	im, too := exact(imag(c))
	if !ok || !too {
		return api.Cplx{}, false
	}
	return api.Cplx{Re: re, Im: im}, true
}

// float: a float near x. The greatest one stands for all that lies beyond, so
// that Exact has a point for whatever Float tells.
func float(x api.Dyad) float64 {
	x = dyad.Scale(x, 0) // without noughts at either end, as a float has its bits
	f, e := 0.0, x.E-limb
	for _, l := range x.M.Mag {
		f = f/(1<<limb) + float64(l)
		e += limb
	}
	if x.M.Neg {
		f = -f
	}
	return min(max(math.Ldexp(f, e), -math.MaxFloat64), math.MaxFloat64)
}

// exact: the number that f is; false, if it is infinite or none.
func exact(f float64) (api.Dyad, bool) {
	if math.IsInf(f, 0) || math.IsNaN(f) {
		return api.Dyad{}, false
	}
	fraction, e := math.Frexp(f)
	return dyad.Scale(dyad.Of(int64(math.Ldexp(fraction, digit))), e-digit), true
}
