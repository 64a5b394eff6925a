package disc_test

import (
	"math"
	"math/big"
	"testing"

	"annulus/api"
	"annulus/disc"
	"annulus/gauss"
	"annulus/rect"
)

// inOne sees that each call of d has what it is to have of points of d.
func inOne(t *testing.T, d api.Disc, p, n int) {
	t.Helper()
	opposite, power, grown, within := meant(disc.Neg(d)), meant(disc.Pow(d, n, p)), meant(disc.Grow(d, int64(1+n))), disc.Inside(d)
	far := disc.Far(d, p)
	asked(t, order(square(value(far)), spot(d.C).norm()) >= 0, true, "Far", d, p)
	for _, a := range inside(d) {
		have := call("where it has", cplxOf(a))
		asked(t, opposite.has(a.mirrored()), true, "Neg", d, have)
		asked(t, grown.has(a), true, "Grow", d, 1+n, have)
		asked(t, rect.Has(within, cplxOf(a)), true, "Inside", d, have)
		of := spot(at(1, 0))
		for range n {
			of = of.times(a)
		}
		asked(t, power.has(of), true, "Pow", d, n, p, have)
	}
	back := disc.Around(within, p)
	asked(t, disc.In(d, back), true, "Around Inside", d, p)
}

func TestWhatIsInOne(t *testing.T) { // P10.3
	i := 0
	singles(func(d api.Disc) {
		i++
		inOne(t, d, i%40, i%6)
	})
	for i, d := range few() {
		if i%25 == 13 {
			for n := range api.MaxPow + 1 {
				inOne(t, d, i, n)
			}
		}
	}
}

func TestWhatIsInTwo(t *testing.T) { // P10.3
	i := 0
	pairs(func(a, b api.Disc) {
		i++
		p := i % 40
		sums, products := meant(disc.Add(a, b)), meant(disc.Mul(a, b, p))
		in, clear := disc.In(a, b), disc.Apart(a, b)
		points := inside(b)
		for j, x := range inside(a) {
			asked(t, in && !meant(b).has(x), false, "In", a, b, cplxOf(x))
			asked(t, clear && meant(b).has(x), false, "Apart", a, b, cplxOf(x))
			for k, y := range points {
				if (j+k+i)%7 > 0 {
					continue
				}
				have := call("where they have", cplxOf(x), cplxOf(y))
				asked(t, sums.has(x.plus(y)), true, "Add", a, b, have)
				asked(t, products.has(x.times(y)), true, "Mul", a, b, p, have)
			}
		}
	})
}

// TestWhatIsInRects sees that Around has corners and what lies between them.
func TestWhatIsInRects(t *testing.T) { // P10.3
	i := 0
	pairs(func(a, b api.Disc) {
		i++
		x := between(a, b)
		around := meant(disc.Around(x, i%40))
		low, high := spot(a.C), spot(b.C)
		part := newNumber(big.NewInt(int64(i%9)), -3)
		middle := low.plus(point{product(part, difference(high.re, low.re)), product(part, difference(high.im, low.im))})
		for _, c := range []point{low, high, middle, {low.re, high.im}, {high.re, low.im}, {middle.re, high.im}, {low.re, middle.im}} {
			asked(t, around.has(c), true, "Around", x, i%40, cplxOf(c))
		}
	})
}

// between: the Rect from a's middle to b's.
func between(a, b api.Disc) api.Rect {
	return api.Rect{Re: api.Real{Lo: a.C.Re, Hi: b.C.Re}, Im: api.Real{Lo: a.C.Im, Hi: b.C.Im}}
}

// answers: all that the calls answer to a and b that are Discs; Rects as two
// such.
func answers(a, b api.Disc, p int) []api.Disc {
	x := disc.Inside(a)
	return []api.Disc{disc.Of(a.C), disc.Add(a, b), disc.Neg(a), disc.Mul(a, b, p), disc.Pow(a, 0, p), disc.Pow(a, 1, p), disc.Pow(a, 3, p), {R: disc.Far(a, p)}, disc.Around(between(a, b), p),
		{C: api.Cplx{Re: x.Re.Lo, Im: x.Im.Lo}}, {C: api.Cplx{Re: x.Re.Hi, Im: x.Im.Hi}}, disc.Grow(a, 0), disc.Grow(a, 1), disc.Grow(a, 3)}
}

// told: what else they answer.
func told(a, b api.Disc) [6]bool {
	return [6]bool{disc.Has(a, b.C), disc.In(a, b), disc.In(b, a), disc.Apart(a, b), disc.Same(a, b), disc.Same(a, disc.Of(a.C))}
}

// alikeTold sees that they answer to a and b as to c and d.
func alikeTold(t *testing.T, a, b, c, d api.Disc, p int) {
	t.Helper()
	wanted := answers(a, b, p)
	for i, got := range answers(c, d, p) {
		asked(t, alike(got, wanted[i]), true, "answer", i, c, d, p)
	}
	asked(t, told(c, d) == told(a, b), true, "told", c, d)
}

// TestOtherWays sees that the calls answer alike, however numbers are written.
func TestOtherWays(t *testing.T) { // P10.1, P10.2
	i := 0
	pairs(func(a, b api.Disc) {
		i++
		if i%20 > 0 {
			return
		}
		re, im, r := ways(a.C.Re), ways(a.C.Im), ways(a.R)
		for j := range re {
			way := api.Disc{C: api.Cplx{Re: re[j], Im: im[(i+j)%len(im)]}, R: r[(i+2*j)%len(r)]}
			alikeTold(t, a, b, way, b, i%70)
			alikeTold(t, b, a, b, way, i%70)
			asked(t, disc.Is(way) == disc.Is(a) && disc.Same(a, way) && disc.Same(way, a), true, "Is, Same", a, way)
		}
	})
}

// TestBelow sees that an R below 0 counts as 0.
func TestBelow(t *testing.T) { // P10.1, P10.2
	i := 0
	pairs(func(a, b api.Disc) {
		i++
		if i%10 > 0 {
			return
		}
		point := disc.Of(a.C)
		for _, r := range []api.Dyad{small(-1, 0), small(-7, api.MaxE), small(-1, -outer), {M: api.Int{Neg: true, Mag: []uint32{0, 12, 0}}, E: 5}, {M: api.Int{Neg: true}, E: 5}} {
			below := api.Disc{C: a.C, R: r}
			alikeTold(t, point, b, below, b, i%70)
			alikeTold(t, b, point, b, below, i%70)
			asked(t, disc.Same(point, below) && disc.In(below, point) && disc.In(point, below), true, "Same, In", point, below)
		}
	})
}

// TestFarthest has the farthest exponents of which something is promised.
func TestFarthest(t *testing.T) { // P10.1, P10.2
	great, little := small(-3, outer), small(7, -outer)
	for _, a := range []api.Disc{{C: api.Cplx{Re: great, Im: little}, R: small(9, 0)}, {C: api.Cplx{Re: little, Im: little}, R: small(1, -outer)}, {C: api.Cplx{Re: little, Im: small(5, 0)}, R: small(1, outer)}} {
		for _, b := range []api.Disc{disc3(2, 3, 1), {C: at(1, -1), R: small(5, -outer)}, {C: api.Cplx{Re: great, Im: small(1, 0)}, R: small(5, outer)}} {
			x, y := meant(a), meant(b)
			want(t, disc.Add(a, b), round{x.c.plus(y.c), sum(x.r, y.r)}, "Add", a, b)
			want(t, disc.Mul(disc.Of(a.C), disc.Of(b.C), 5), round{x.c.times(y.c), whole(0)}, "Mul", a, b)
			asked(t, disc.In(a, b), x.within(y), "In", a, b)
			asked(t, disc.Apart(a, b), x.apart(y), "Apart", a, b)
			asked(t, disc.Has(a, b.C), x.has(y.c), "Has", a, b.C)
		}
		asked(t, disc.Same(disc.Neg(disc.Neg(a)), a), true, "Neg", a)
		want(t, disc.Grow(a, 3), round{meant(a).c, product(meant(a).r, whole(3))}, "Grow", a)
	}
}

// TestBeyond sees that all calls come back, however far an exponent lies.
func TestBeyond(t *testing.T) { // P10.1, P10.2
	exponents := []int{1 << 22, -outer - 1, 1 << 31, math.MaxInt, math.MinInt}
	for i, e := range exponents {
		for _, m := range []int64{0, 1, -12} {
			x := api.Dyad{M: small(m, 0).M, E: e}
			y := api.Dyad{M: small(7, 0).M, E: exponents[(i+3)%len(exponents)]}
			for _, d := range []api.Disc{{C: api.Cplx{Re: x, Im: small(3, 0)}, R: small(1, 0)}, {C: api.Cplx{Re: small(3, 0), Im: x}, R: x}, {C: api.Cplx{Re: x, Im: y}, R: y}} {
				answers(d, disc3(2, 3, 1), 1)
				answers(disc3(2, 3, 1), d, 40)
				told(d, disc3(2, 3, 1))
				asked(t, disc.Has(disc.Of(d.C), d.C) && disc.In(d, d) && disc.Same(d, d), true, "Has, In, Same", d)
			}
		}
	}
}

// nearly fails unless x isn't less than n, nor much more.
func nearly(t *testing.T, x api.Dyad, n number, name string, args ...any) {
	t.Helper()
	more := difference(value(x), n)
	asked(t, more.m.Sign() >= 0 && order(moved(more, 20), n) <= 0, true, name, args...)
}

// TestPowBeyond has powers that lie so far up that their R's needn't be told to
// each place: they still have what they are to have.
func TestPowBeyond(t *testing.T) { // P10.2, P10.3
	d := api.Disc{C: at(5, 0), R: small(3, outer)}
	middle := whole(1)
	for n := range 7 {
		most := whole(1)
		for range n {
			most = product(most, sum(whole(5), value(d.R)))
		}
		got := disc.Pow(d, n, 40)
		nearly(t, got.R, difference(most, middle), "Pow", d, n)
		asked(t, equal(got.C.Re, dyadOf(middle)) && equal(got.C.Im, api.Dyad{}), true, "Pow", d, n)
		middle = product(middle, whole(5))
	}
	// One whose middle's Norm lies so far up: 3 times the square of how far it
	// lies from 0, and little more.
	d = api.Disc{C: api.Cplx{Re: small(5, outer), Im: small(3, 0)}, R: small(1, 0)}
	got, c := disc.Pow(d, 3, 40), gauss.Pow(d.C, 3)
	asked(t, equal(got.C.Re, c.Re) && equal(got.C.Im, c.Im), true, "Pow", d, 3)
	nearly(t, got.R, newNumber(big.NewInt(75), 2*outer), "Pow", d, 3)
}
