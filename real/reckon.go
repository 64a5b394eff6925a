package real

import (
	"annulus/api"
	"annulus/dyad"
	"annulus/quot"
)

// Add tells the least that has all sums.
func Add(x, y api.Real) api.Real {
	x, y = ordered(x), ordered(y)
	return api.Real{Lo: dyad.Add(x.Lo, y.Lo), Hi: dyad.Add(x.Hi, y.Hi)}
}

// Sub tells the least that has all numbers of x less those of y.
func Sub(x, y api.Real) api.Real {
	x, y = ordered(x), ordered(y)
	return api.Real{Lo: dyad.Sub(x.Lo, y.Hi), Hi: dyad.Sub(x.Hi, y.Lo)}
}

// Mul tells the least that has all products.
func Mul(x, y api.Real) api.Real {
	x, y = ordered(x), ordered(y)
	i, j := side(x), side(y)
	c := products[i][j]
	z := api.Real{Lo: product(x, y, c.least), Hi: product(x, y, c.most)}
	if i == across && j == across {
		z.Lo = lesser(z.Lo, product(x, y, opposite(c.least)))
		z.Hi = greater(z.Hi, product(x, y, opposite(c.most)))
	}
	return z
}

// Neg tells 0 less x.
func Neg(x api.Real) api.Real {
	x = ordered(x)
	return api.Real{Lo: dyad.Neg(x.Hi), Hi: dyad.Neg(x.Lo)}
}

// Abs tells the least that has how far each number of x is from 0.
func Abs(x api.Real) api.Real {
	x = ordered(x)
	switch side(x) {
	case above:
		return told(x.Lo, x.Hi)
	case below:
		return Neg(x)
	}
	return api.Real{Hi: greater(dyad.Abs(x.Lo), dyad.Abs(x.Hi))}
}

// Square tells the least that has the square of each number of x.
func Square(x api.Real) api.Real {
	x = Abs(x)
	return api.Real{Lo: dyad.Mul(x.Lo, x.Lo), Hi: dyad.Mul(x.Hi, x.Hi)}
}

// Pow tells the least that has the n-th power of each number of x.
func Pow(x api.Real, n int) api.Real {
	// Held ahead of asking whether it is even: 65 counts as 64.
	n = min(max(n, 0), api.MaxPow)
	if n%2 == 0 {
		x = Abs(x)
	}
	x = ordered(x)
	return api.Real{Lo: dyad.Pow(x.Lo, n), Hi: dyad.Pow(x.Hi, n)}
}

// Inv tells what has 1 by each number of x, of p bits; ErrZero, if x has 0.
func Inv(x api.Real, p int) (api.Real, api.Errno) {
	if Has(x, dyad.Of(0)) {
		return api.Real{}, api.ErrZero
	}
	x = ordered(x)
	one := dyad.Of(1)
	least, _ := quot.Div(one, x.Hi, p, api.Down)
	most, _ := quot.Div(one, x.Lo, p, api.Up)
	return api.Real{Lo: least, Hi: most}, api.OK
}

// Div tells what has each number of x by each one of y, of p bits; ErrZero, if
// y has 0.
func Div(x, y api.Real, p int) (api.Real, api.Errno) {
	inverse, e := Inv(y, p)
	if e != api.OK {
		return api.Real{}, e
	}
	return Round(Mul(x, inverse), p), api.OK
}
