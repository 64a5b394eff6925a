package poly_test

import (
	"math"
	"math/rand"
	"slices"
	"testing"

	"annulus/api"
	"annulus/gauss"
	"annulus/poly"
)

// TestRoots sees that a polynomial of roots is nought there, as often as they
// are such, and nowhere else.
func TestRoots(t *testing.T) { // P11.2
	r := rand.New(rand.NewSource(117))
	for range 300 {
		roots := someRoots(r, 9, 2, 50)
		p := poly.From(roots)
		asked(t, poly.Degree(p) == len(roots), true, "Degree of From", roots)
		for _, z := range append(slices.Clone(roots), somePoint(r, 2, 50), at(0, 0)) {
			often := 0
			for _, root := range roots {
				if spot(root).less(spot(z)).zero() {
					often++
				}
			}
			left := p
			for range often { // it is one of all slopes below so many, and of the quotients
				asked(t, gauss.Zero(poly.At(p, z)) && gauss.Zero(poly.At(left, z)), true, "At of From", roots, z)
				rest := api.Cplx{}
				left, rest = poly.Part(left, z)
				wantPoint(t, rest, nought(), "Part of From", roots, z)
				p = poly.Deriv(p)
			}
			asked(t, gauss.Zero(poly.At(p, z)) || gauss.Zero(poly.At(left, z)), false, "At of From", roots, z, often)
			p = poly.From(roots)
			low := poly.Shift(p, z)
			for i := range often {
				wantPoint(t, low[i], nought(), "Shift of From", roots, z)
			}
			asked(t, gauss.Zero(low[often]), false, "Shift of From", roots, z, often)
		}
		rest := api.Cplx{}
		for _, root := range roots {
			p, rest = poly.Part(p, root)
			wantPoint(t, rest, nought(), "Part of From", roots, root)
		}
		want(t, p, []point{one()}, "Part of From", roots)
	}
}

// TestLaws sees that what is done in one way comes to the same in another one.
func TestLaws(t *testing.T) { // P11.1, P11.2
	r := rand.New(rand.NewSource(118))
	var last []api.Cplx
	i := 0
	pairs(func(p, q []api.Cplx) {
		i++
		if i%3 > 0 {
			return
		}
		s := last
		last = q
		z, c, n := somePoint(r, 2, 40), somePoint(r, 2, 40), r.Intn(41)-20
		both := poly.Mul(p, q)
		for j, law := range [][2][]api.Cplx{
			{poly.Add(p, q), poly.Add(q, p)}, {both, poly.Mul(q, p)},
			{poly.Mul(poly.Add(p, q), s), poly.Add(poly.Mul(p, s), poly.Mul(q, s))}, {poly.Mul(both, s), poly.Mul(p, poly.Mul(q, s))},
			{poly.Sub(poly.Add(p, q), q), poly.Trim(p)}, {poly.Sub(p, p), nil},
			{poly.Deriv(both), poly.Add(poly.Mul(poly.Deriv(p), q), poly.Mul(p, poly.Deriv(q)))},
			{poly.Shift(both, c), poly.Mul(poly.Shift(p, c), poly.Shift(q, c))}, {poly.Shift(poly.Shift(p, c), gauss.Neg(c)), poly.Trim(p)},
			{poly.Scale(both, n), poly.Mul(poly.Scale(p, n), poly.Scale(q, n))}, {poly.Scale(poly.Scale(p, n), -n), poly.Trim(p)},
			{poly.Deriv(poly.Shift(p, c)), poly.Shift(poly.Deriv(p), c)},
		} {
			asked(t, alikePoly(law[0], law[1]) && poly.Same(law[0], law[1]), true, "law", j, p, q, s, z, c, n)
		}
		for j, law := range [][2]api.Cplx{
			{poly.At(both, z), gauss.Mul(poly.At(p, z), poly.At(q, z))}, {poly.At(poly.Add(p, q), z), gauss.Add(poly.At(p, z), poly.At(q, z))},
			{poly.At(poly.Shift(p, c), z), poly.At(p, gauss.Add(z, c))}, {poly.At(poly.Scale(p, n), z), poly.At(p, gauss.Scale(z, n))},
		} {
			asked(t, alike(law[0], law[1]), true, "law of values", j, p, q, z, c, n)
		}
	})
}

// TestOtherWays sees that the calls answer alike, however numbers are written.
func TestOtherWays(t *testing.T) { // P11.1
	r := rand.New(rand.NewSource(119))
	i := 0
	pairs(func(p, q []api.Cplx) {
		i++
		if i%4 > 0 {
			return
		}
		z := somePoint(r, 2, 40)
		a, b := meant(p), meant(q)
		wanted := answers(coefficients(a), coefficients(b), z, i%70)
		v, w, y := otherPoly(r, a), otherPoly(r, b), otherPoint(r, spot(z))
		for j, got := range answers(v, w, y, i%70) {
			asked(t, alikePoly(got, wanted[j]), true, "answer", j, v, w, y)
		}
		asked(t, told(v, w) == told(p, q), true, "told", v, w)
		roots := v[:len(a)] // those on top would be roots, too
		asked(t, alikePoly(poly.From(roots), poly.From(coefficients(a))), true, "From", roots)
	})
}

// TestFarthest has the farthest exponents of which something is promised.
func TestFarthest(t *testing.T) { // P11.1
	great, little := small(-3, outer), small(7, -outer)
	ps := [][]api.Cplx{{{Re: great, Im: little}, at(1, 2)}, {at(5, 0), {Re: little}, {Im: great}}, {{Im: little}, {}, {Re: small(1, -outer), Im: small(5, -outer)}}, {{Re: great}}}
	for i, p := range ps {
		q := ps[(i+1)%len(ps)]
		a, b := meant(p), meant(q)
		want(t, poly.Trim(p), a, "Trim", p)
		want(t, poly.Add(p, q), plus(a, b), "Add", p, q)
		want(t, poly.Sub(p, q), plus(a, opposite(b)), "Sub", p, q)
		want(t, poly.Mul(p, q), times(a, b), "Mul", p, q)
		want(t, poly.Deriv(p), slope(a), "Deriv", p)
		want(t, poly.Scale(p, math.MinInt), scaled(a, -api.MaxE), "Scale", p)
		asked(t, poly.Same(p, p) && !poly.Same(p, q), true, "Same", p, q)
		for _, z := range []api.Cplx{{Re: great}, {Im: little}, {Re: little, Im: great}} {
			wantPoint(t, poly.At(p, z), valueAt(a, spot(z)), "At", p, z)
			want(t, poly.Shift(p, z), shifted(a, spot(z)), "Shift", p, z)
			part, left := poly.Part(p, z)
			want(t, part, quotient(a, spot(z)), "Part", p, z)
			wantPoint(t, left, valueAt(a, spot(z)), "Part", p, z)
			want(t, poly.From([]api.Cplx{z, p[0]}), chosen([]point{spot(z), a[0]}), "From", z, p[0])
		}
	}
}

// TestMaxE has exponents as they are read, and degrees as they are asked.
func TestMaxE(t *testing.T) { // P11.1
	r := rand.New(rand.NewSource(120))
	z := api.Cplx{Re: small(-3, api.MaxE), Im: small(5, -api.MaxE)}
	var p []api.Cplx
	for range api.MaxDegree + 1 {
		p = append(p, api.Cplx{Re: small(r.Int63n(99)-50, r.Intn(2*api.MaxE)-api.MaxE), Im: small(1, -api.MaxE)})
	}
	wantPoint(t, poly.At(p, z), valueAt(meant(p), spot(z)), "At", p, z)
	want(t, poly.Shift(p[:13], z), shifted(meant(p[:13]), spot(z)), "Shift", p[:13], z)
	part, left := poly.Part(p, z)
	want(t, part, quotient(meant(p), spot(z)), "Part", p, z)
	wantPoint(t, left, valueAt(meant(p), spot(z)), "Part", p, z)
	want(t, poly.Mul(p, p), times(meant(p), meant(p)), "Mul", p, p)
	want(t, poly.From(p[:6]), chosen(meant(p[:6])), "From", p[:6])
}

// TestBeyond sees that all calls come back, however far an exponent lies.
func TestBeyond(t *testing.T) { // P11.1
	exponents := []int{1 << 22, -outer - 1, 1 << 31, -1 << 40, math.MaxInt, math.MinInt}
	for i, e := range exponents {
		for _, m := range []int64{0, 1, -12} {
			x := api.Dyad{M: small(m, 0).M, E: e}
			y := api.Dyad{M: small(7, 0).M, E: exponents[(i+4)%len(exponents)]}
			for _, z := range []api.Cplx{{Re: x, Im: small(3, 0)}, {Re: small(3, 0), Im: x}, {Re: x, Im: y}} {
				for _, p := range [][]api.Cplx{{z, at(1, 2), z}, {at(1, 2), z, {}}, of(1, 2, 3)} {
					answers(p, of(1, 0, 5), z, math.MaxInt)
					answers(of(1, 0, 5), p, z, math.MinInt)
					told(p, of(1, 2, 3))
					asked(t, poly.Same(p, p), true, "Same", p)
				}
			}
		}
	}
}

// TestLong has more coefficients than any later layer asks of.
func TestLong(t *testing.T) { // P11.1
	const n = 20000
	p, q := make([]api.Cplx, n+1), make([]api.Cplx, n+1, n+500)
	p[0], p[n], q[7], q[n-3] = at(1, 0), at(0, 2), at(3, 0), at(5, -1)
	wanted := make([]api.Cplx, 2*n-2)
	wanted[7], wanted[n-3], wanted[n+7], wanted[2*n-3] = at(3, 0), at(5, -1), at(0, 6), at(2, 10)
	want(t, poly.Mul(p, q), meant(wanted), "Mul of long ones")
	wantPoint(t, poly.At(p, api.Cplx{Re: small(1, 2)}), point{whole(1), newNumber(whole(1).m, 2*n+1)}, "At of a long one")
	wantPoint(t, poly.At(p, at(0, 1)), point{whole(1), whole(2)}, "At of a long one")
	asked(t, poly.Same(p, slices.Clone(p)) && !poly.Same(p, q), true, "Same of long ones")
	want(t, poly.Shift(p, api.Cplx{}), meant(p), "Shift of a long one")
	want(t, poly.Sub(poly.Add(p, q), q), meant(p), "Add and Sub of long ones")
	slopes := make([]api.Cplx, n)
	slopes[n-1] = at(0, 2*n)
	want(t, poly.Deriv(p), meant(slopes), "Deriv of a long one")
	ones := slices.Repeat(of(1), 300)
	wantPoint(t, poly.At(ones, at(2, 0)), lessOne(300), "At of a long one")
	want(t, poly.Shift(ones, at(1, 0)), shifted(meant(ones), one()), "Shift of a long one")
	want(t, poly.Mul(ones, of(-1, 1)), plus(meant(append(make([]api.Cplx, 300), at(1, 0))), meant(of(-1))), "Mul of a long one")
}

// lessOne: 2 to the power of n, less 1.
func lessOne(n int) point {
	return point{difference(moved(whole(1), n), whole(1)), whole(0)}
}
