package graeffe_test

import (
	"math"
	"math/rand"
	"slices"
	"testing"

	"annulus/api"
	"annulus/gauss"
	"annulus/graeffe"
	"annulus/poly"
)

// TestRoots sees that a step squares the roots, each as often as it is one, and
// the top coefficient.
func TestRoots(t *testing.T) { // P13.1, P13.2
	r := rand.New(rand.NewSource(133))
	for range 400 {
		roots, high := someRoots(r, 9, 2, 50), spot(somePoint(r, 2, 50))
		p := otherPoly(r, fromRoots(high, roots))
		for n := range 4 {
			want(t, graeffe.Steps(p, n), fromRoots(high, roots), "Steps", p, n)
			roots, high = squares(roots), high.times(high)
		}
	}
}

// TestFarther sees that roots of which each lies twice as far as the one ahead
// of it come to lie so many times as far as that is squared, again and again.
func TestFarther(t *testing.T) { // P13.2
	for degree := range 9 {
		for n := range api.MaxSteps + 3 {
			var near, far []point
			for i := range degree {
				near = append(near, spot(api.Cplx{Re: small(1, i-3)}))
				far = append(far, spot(api.Cplx{Re: small(1, (i-3)<<min(n, api.MaxSteps))}))
			}
			p := coefficients(fromRoots(one(), near))
			want(t, graeffe.Steps(p, n), fromRoots(one(), far), "Steps", p, n)
		}
	}
}

// TestLaws sees that what is done in one way comes to the same in another one.
func TestLaws(t *testing.T) { // P13.1
	r := rand.New(rand.NewSource(134))
	var last []api.Cplx
	singles(func(p []api.Cplx) {
		q := last
		last = p
		if len(p) > 9 || len(q) > 9 || r.Intn(3) > 0 {
			return
		}
		c, n := somePoint(r, 2, 40), r.Intn(3)
		both := poly.Mul(p, q)
		for j, law := range [][2][]api.Cplx{
			{graeffe.Step(both), poly.Mul(graeffe.Step(p), graeffe.Step(q))},
			{graeffe.Step(graeffe.Mirror(p)), graeffe.Step(p)},
			{graeffe.Mirror(both), poly.Mul(graeffe.Mirror(p), graeffe.Mirror(q))},
			{graeffe.Mirror(poly.Shift(p, c)), poly.Shift(graeffe.Mirror(p), gauss.Neg(c))},
			{graeffe.Step(poly.Scale(p, n)), poly.Scale(graeffe.Step(p), 2*n)},
			{graeffe.Steps(p, n), graeffe.Steps(graeffe.Steps(p, n/2), n-n/2)},
			{graeffe.Steps(p, 1), graeffe.Step(p)}, {graeffe.Steps(p, 0), poly.Trim(p)},
		} {
			asked(t, alikePoly(law[0], law[1]), true, "law", j, p, q, n)
		}
		if poly.Degree(p) >= 0 {
			asked(t, poly.Degree(graeffe.Step(p)) == poly.Degree(p), true, "Degree", p)
		}
		even, odd := graeffe.Split(p)
		square := gauss.Mul(c, c)
		value := gauss.Add(poly.At(even, square), gauss.Mul(c, poly.At(odd, square)))
		asked(t, gauss.Same(poly.At(p, c), value), true, "At of Split", p, c)
		asked(t, gauss.Same(poly.At(graeffe.Mirror(p), c), poly.At(p, gauss.Neg(c))), true, "At of Mirror", p, c)
	})
}

// TestOtherWays sees that the calls answer alike, however numbers are written.
func TestOtherWays(t *testing.T) { // P13.1
	r := rand.New(rand.NewSource(135))
	singles(func(p []api.Cplx) {
		wanted := answers(coefficients(meant(p)))
		way := otherPoly(r, meant(p))
		for j, got := range answers(way) {
			asked(t, alikePoly(got, wanted[j]), true, "answer", j, way)
		}
	})
}

// TestFarthest has the farthest exponents of which something is promised.
func TestFarthest(t *testing.T) { // P13.1
	great, little := small(-3, outer), small(7, -outer)
	for _, p := range [][]api.Cplx{
		{{Re: great, Im: little}, at(1, 2)}, {at(5, 0), {Re: little}, {Im: great}}, {{Im: little}, {}, {Re: small(1, -outer), Im: small(5, -outer)}}, {{Re: great}}, {{Im: great}, at(1, 0), {Re: great}, {Im: little}, {Re: little}},
	} {
		want(t, graeffe.Step(p), stepped(meant(p)), "Step", p)
		want(t, graeffe.Steps(p, 1), stepped(meant(p)), "Steps", p)
		want(t, graeffe.Steps(p, 0), meant(p), "Steps", p)
		want(t, graeffe.Mirror(p), mirrored(meant(p)), "Mirror", p)
		even, odd := graeffe.Split(p)
		want(t, coefficients(joined(meant(even), meant(odd))), meant(p), "Split", p)
	}
}

// TestLarge has the greatest degree, bits and exponents of a polynomial whose
// roots are asked.
func TestLarge(t *testing.T) { // P13.1
	r := rand.New(rand.NewSource(136))
	var p []api.Cplx
	for range api.MaxDegree + 1 {
		c := api.Cplx{Re: some(r, 13, 400), Im: some(r, 13, 400)}
		c.Re.M.Mag, c.Im.M.Mag = append(c.Re.M.Mag, 1), append(c.Im.M.Mag, 3)
		p = append(p, c)
	}
	wanted := meant(p)
	for n := range 4 {
		want(t, graeffe.Steps(p, n), wanted, "Steps", p, n)
		wanted = stepped(wanted)
	}
}

// TestBeyond sees that all calls come back, however far an exponent lies.
func TestBeyond(t *testing.T) { // P13.1
	exponents := []int{1 << 22, -outer - 1, 1 << 31, -1 << 40, math.MaxInt, math.MinInt}
	for i, e := range exponents {
		for _, m := range []int64{0, 1, -12} {
			x := api.Dyad{M: small(m, 0).M, E: e}
			y := api.Dyad{M: small(7, 0).M, E: exponents[(i+4)%len(exponents)]}
			for _, c := range []api.Cplx{{Re: x, Im: small(3, 0)}, {Re: small(3, 0), Im: x}, {Re: x, Im: y}} {
				for _, p := range [][]api.Cplx{{c}, {c, at(1, 2), c}, {at(1, 2), c, {}}} {
					graeffe.Split(p)
					graeffe.Mirror(p)
					graeffe.Step(p)
					graeffe.Steps(p, math.MinInt)
					graeffe.Steps(p, 1)
				}
			}
			graeffe.Steps([]api.Cplx{{Re: x}, at(1, 0)}, math.MaxInt)
			graeffe.Steps([]api.Cplx{at(1, 0), {}, {Im: x}}, math.MaxInt)
		}
	}
}

// TestLong has more coefficients than any later layer asks of.
func TestLong(t *testing.T) { // P13.1
	const n = 20000
	p := make([]api.Cplx, n+1, n+500)
	p[0], p[7], p[n] = at(1, 0), at(3, 0), at(0, 2)
	wanted := make([]api.Cplx, n+1)
	wanted[0], wanted[7], wanted[n/2], wanted[n] = at(1, 0), at(-9, 0), at(0, 4), at(-4, 0)
	want(t, graeffe.Step(p), meant(wanted), "Step of a long one")
	wanted[7], wanted[n/4], wanted[n/2], wanted[n/4*3], wanted[n] = at(-81, 0), at(0, 8), at(-24, 0), at(0, -32), at(16, 0)
	want(t, graeffe.Steps(p, 2), meant(wanted), "Steps of a long one")
}

// TestLongNoughts has noughts alone, and beneath.
func TestLongNoughts(t *testing.T) { // P13.1
	const n = 200000
	p := make([]api.Cplx, n)
	for i, got := range answers(p) {
		want(t, got, nil, "answer of noughts", i)
	}
	p[n-1] = at(0, 1)
	even, odd := graeffe.Split(p)
	asked(t, len(even) == 0 && len(odd) == n/2 && alike(odd[n/2-1], at(0, 1)), true, "Split of a long one")
	mirror := graeffe.Mirror(p)
	asked(t, len(mirror) == n && alike(mirror[n-1], at(0, -1)), true, "Mirror of a long one")
	for i, high := range []api.Cplx{at(0, 1), at(-1, 0), at(1, 0), at(1, 0)} {
		got := graeffe.Steps(p, i)
		asked(t, len(got) == n && alike(got[n-1], high), true, "Steps of a long one", i)
		asked(t, slices.ContainsFunc(got[:n-1], func(c api.Cplx) bool { return !gauss.Zero(c) }), false, "Steps of a long one", i)
	}
}
