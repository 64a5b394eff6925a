package rect

import (
	"annulus/api"
	"annulus/gauss"
	"annulus/real"
)

// term: a part of x times one of y.
type term struct{ x, y int }

// sum: two terms together; or the second one taken off the first one.
type sum struct {
	first, second term
	off           bool
}

// products: what the parts of a product are.
var products = [2]sum{
	re: {first: term{re, re}, second: term{im, im}, off: true},
	im: {first: term{re, im}, second: term{im, re}, off: false},
}

// reckoned tells s of what has the parts a and b.
func reckoned(s sum, a, b [2]api.Real) api.Real {
	first, second := real.Mul(a[s.first.x], b[s.first.y]), real.Mul(a[s.second.x], b[s.second.y])
	if s.off {
		return real.Sub(first, second)
	}
	return real.Add(first, second)
}

// Add tells the least that has all sums.
func Add(x, y api.Rect) api.Rect { return pairs(x, y, real.Add) }

// Sub tells the least that has all points of x less those of y.
func Sub(x, y api.Rect) api.Rect { return pairs(x, y, real.Sub) }

// Neg tells 0 less x.
func Neg(x api.Rect) api.Rect { return each(x, real.Neg) }

// Mul tells what has all products.
func Mul(x, y api.Rect) api.Rect {
	a, b := parts(x), parts(y)
	var z [2]api.Real
	for i := range z {
		z[i] = reckoned(products[i], a, b)
	}
	return joined(z)
}

// Square tells what has the square of each point of x.
func Square(x api.Rect) api.Rect {
	across := real.Mul(x.Re, x.Im)
	return api.Rect{
		Re: real.Sub(real.Square(x.Re), real.Square(x.Im)),
		Im: real.Add(across, across),
	}
}

// Pow tells what has the n-th power of each point of x.
func Pow(x api.Rect, n int) api.Rect {
	x = Hull(x, x) // as it is written: noughts below an even M aren't to be multiplied
	power := Of(gauss.Of(1, 0))
	// Not by squares: they'd tell other rectangles.
	for range min(max(n, 0), api.MaxPow) {
		power = Mul(power, x)
	}
	return power
}

// Norm tells what has the square of how far each point of x is from 0.
func Norm(x api.Rect) api.Real { return real.Add(real.Square(x.Re), real.Square(x.Im)) }

// Inv tells what has 1 by each point of x; ErrZero, if x has 0.
func Inv(x api.Rect, p int) (api.Rect, api.Errno) {
	norm := Norm(x)
	z := [2]api.Real{re: x.Re, im: real.Neg(x.Im)}
	for i := range z {
		quotient, e := real.Div(z[i], norm, p)
		if e != api.OK {
			return api.Rect{}, e
		}
		z[i] = quotient
	}
	return joined(z), api.OK
}

// Div tells what has each point of x by each one of y, of p bits; ErrZero, if y
// has 0.
func Div(x, y api.Rect, p int) (api.Rect, api.Errno) {
	inverse, e := Inv(y, p)
	if e != api.OK {
		return api.Rect{}, e
	}
	return Round(Mul(x, inverse), p), api.OK
}
