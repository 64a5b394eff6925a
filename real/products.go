package real

import (
	"annulus/api"
	"annulus/dyad"
)

// Where numbers lie.
const (
	below  = iota // none above 0
	across        // on both sides of it
	above         // none below 0
)

// Their ends.
const (
	lo = iota
	hi
)

// corner: an end of x and one of y.
type corner struct{ x, y int }

// corners: those whose product is the least, the greatest.
type corners struct{ least, most corner }

// products: the corners whose products are the ends of all, by where x and y
// lie. If both lie across 0, the opposite one's product may be farther out.
var products = [3][3]corners{
	below: {
		below:  {least: corner{hi, hi}, most: corner{lo, lo}},
		across: {least: corner{lo, hi}, most: corner{lo, lo}},
		above:  {least: corner{lo, hi}, most: corner{hi, lo}},
	},
	across: {
		below:  {least: corner{hi, lo}, most: corner{lo, lo}},
		across: {least: corner{hi, lo}, most: corner{hi, hi}},
		above:  {least: corner{lo, hi}, most: corner{hi, hi}},
	},
	above: {
		below:  {least: corner{hi, lo}, most: corner{lo, hi}},
		across: {least: corner{hi, lo}, most: corner{hi, hi}},
		above:  {least: corner{lo, lo}, most: corner{hi, hi}},
	},
}

// side: where x, whose ends stand in order, lies. 0 alone counts as above.
func side(x api.Real) int {
	switch {
	case dyad.Sign(x.Lo) >= 0:
		return above
	case dyad.Sign(x.Hi) <= 0:
		return below
	}
	return across
}

// end: that end of x.
func end(x api.Real, which int) api.Dyad {
	if which == lo {
		return x.Lo
	}
	return x.Hi
}

// opposite: the other end of each.
func opposite(c corner) corner { return corner{hi - c.x, hi - c.y} }

// product: x's end times y's.
func product(x, y api.Real, c corner) api.Dyad { return dyad.Mul(end(x, c.x), end(y, c.y)) }
