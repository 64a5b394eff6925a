package whole

import (
	"annulus/api"
	"annulus/nat"
)

// What a sum is made of.
const (
	first  = iota // the first alone, as the second is 0
	second        // the second alone
	both          // both Mags together
	apart         // one Mag less the other
)

// sums: what a sum is made of, by the signs of both, from -1 on.
var sums = [3][3]int{
	{both, first, apart},
	{second, first, second},
	{apart, first, both},
}

// products: the sign of a product, by the signs of both, from -1 on.
var products = [3][3]int{
	{1, 0, -1},
	{0, 0, 0},
	{-1, 0, 1},
}

// Add tells the sum.
func Add(a, b api.Int) api.Int { return sum(a.Mag, b.Mag, Sign(a), Sign(b)) }

// Sub tells a less b.
func Sub(a, b api.Int) api.Int { return sum(a.Mag, b.Mag, Sign(a), -Sign(b)) }

// sum: the sum of what has the Mags a and b, of the signs s and t.
func sum(a, b []uint32, s, t int) api.Int {
	switch sums[s+1][t+1] {
	case first:
		return signed(s, nat.Trim(a))
	case second:
		return signed(t, nat.Trim(b))
	case both:
		return signed(s, nat.Add(a, b))
	}
	if less, ok := nat.Sub(a, b); ok {
		return signed(s, less)
	}
	less, _ := nat.Sub(b, a)
	return signed(t, less)
}

// Mul tells the product.
func Mul(a, b api.Int) api.Int {
	return signed(products[Sign(a)+1][Sign(b)+1], nat.Mul(a.Mag, b.Mag))
}

// Neg tells 0 less a.
func Neg(a api.Int) api.Int { return signed(-Sign(a), nat.Trim(a.Mag)) }

// Div tells the floor of a by b, and the rest, of b's sign or 0; false of b 0.
func Div(a, b api.Int) (api.Int, api.Int, bool) {
	quotient, rest, ok := nat.Div(a.Mag, b.Mag)
	if !ok {
		return api.Int{}, api.Int{}, false
	}
	// A quotient has a product's sign.
	sign := products[Sign(a)+1][Sign(b)+1]
	if sign < 0 && len(rest) > 0 {
		// Below 0 the floor is one farther out than what the Mags tell, and
		// the rest is counted from there.
		quotient = nat.Add(quotient, []uint32{1})
		rest, _ = nat.Sub(b.Mag, rest)
	}
	return signed(sign, quotient), signed(Sign(b), rest), true
}
