package poly_test

import (
	"math"
	"math/rand"
	"testing"

	"annulus/api"
	"annulus/poly"
)

func TestSumsWritten(t *testing.T) { // P11.1
	for _, c := range []struct{ p, q, sum, less []api.Cplx }{
		{nil, nil, nil, nil}, {of(1, 2), nil, of(1, 2), of(1, 2)}, {nil, of(1, 2), of(1, 2), of(-1, -2)}, {of(1, 2, 3), of(5), of(6, 2, 3), of(-4, 2, 3)}, {of(5), of(1, 2, 3), of(6, 2, 3), of(4, -2, -3)},
		// What is left is of a lower degree, or nothing.
		{of(1, 2, 3), of(4, 5, 3), of(5, 7, 6), of(-3, -3)}, {of(1, 2, 3), of(4, 5, -3), of(5, 7), of(-3, -3, 6)}, {of(1, 2, 3), of(1, -2, -3), of(2), of(0, 4, 6)}, {complexOf(1, 2, 3, 4), complexOf(-1, -2, -3, -4), nil, complexOf(2, 4, 6, 8)}, {complexOf(1, 2, 3, 4), complexOf(0, 2, -3, 4), complexOf(1, 4, 0, 8), complexOf(1, 0, 6, 0)}, {complexOf(1, 2, 3, 4), complexOf(1, 2, 3, 4), complexOf(2, 4, 6, 8), nil},
		{zeros, zeros, nil, nil}, {append(of(1), zeros...), append(of(2, 3), zeros...), of(3, 3), of(-1, -3)}, {of(0, 1), of(0, 0, 0, 1), of(0, 1, 0, 1), of(0, 1, 0, -1)},
	} {
		want(t, poly.Add(c.p, c.q), meant(c.sum), "Add", c.p, c.q)
		want(t, poly.Sub(c.p, c.q), meant(c.less), "Sub", c.p, c.q)
	}
}

func TestSums(t *testing.T) { // P11.1
	lower := 0
	pairs(func(p, q []api.Cplx) {
		a, b := meant(p), meant(q)
		want(t, poly.Add(p, q), plus(a, b), "Add", p, q)
		want(t, poly.Add(q, p), plus(a, b), "Add", q, p)
		want(t, poly.Sub(p, q), plus(a, opposite(b)), "Sub", p, q)
		want(t, poly.Sub(q, p), plus(b, opposite(a)), "Sub", q, p)
		if len(plus(a, b)) < max(len(a), len(b)) {
			lower++
		}
	})
	asked(t, lower > 300, true, "Add: of a lower degree", lower)
}

func TestMulWritten(t *testing.T) { // P11.1
	for _, c := range []struct{ p, q, want []api.Cplx }{
		{nil, nil, nil}, {nil, of(1, 2), nil}, {zeros, of(1, 2), nil}, {of(3), of(1, 2), of(3, 6)}, {of(1), of(0, 0, 7), of(0, 0, 7)}, {of(1, 1), of(-1, 1), of(-1, 0, 1)}, {of(1, 1), of(1, 1), of(1, 2, 1)}, {of(1, 2, 3), of(4, 5), of(4, 13, 22, 15)}, {of(0, 1), of(0, 1), of(0, 0, 1)}, {of(1, -1, 1), of(1, 1), of(1, 0, 0, 1)}, {of(1, 0, 0, 2), of(3, 0, 4), of(3, 0, 4, 6, 0, 8)},
		{complexOf(0, 1), complexOf(0, 1), of(-1)}, {complexOf(0, 1, 1, 0), complexOf(0, -1, 1, 0), of(1, 0, 1)}, {complexOf(1, 2, 3, 4), complexOf(5, -6, 0, 1), complexOf(17, 4, 37, 3, -4, 3)}, {append(of(0, 2), zeros...), append(of(5), zeros...), of(0, 10)},
	} {
		want(t, poly.Mul(c.p, c.q), meant(c.want), "Mul", c.p, c.q)
		want(t, poly.Mul(c.q, c.p), meant(c.want), "Mul", c.q, c.p)
	}
}

func TestMul(t *testing.T) { // P11.1
	pairs(func(p, q []api.Cplx) {
		wanted := times(meant(p), meant(q))
		want(t, poly.Mul(p, q), wanted, "Mul", p, q)
		want(t, poly.Mul(q, p), wanted, "Mul", q, p)
	})
	r := rand.New(rand.NewSource(115))
	for range 10 {
		p, q := somePoly(r, 40, 3, 60), somePoly(r, 40, 2, 60)
		want(t, poly.Mul(p, q), times(meant(p), meant(q)), "Mul", p, q)
	}
}

func TestDeriv(t *testing.T) { // P11.1
	for _, c := range []struct{ p, want []api.Cplx }{
		{nil, nil}, {zeros, nil}, {of(7), nil}, {append(of(7), zeros...), nil}, {of(7, 3), of(3)}, {of(1, 2, 3, 4), of(2, 6, 12)}, {of(0, 0, 0, 0, 1), of(0, 0, 0, 4)}, {of(5, 0, 0, -1), of(0, 0, -3)}, {complexOf(1, 1, 2, -3, 4, 5, -6, 7), complexOf(2, -3, 8, 10, -18, 21)},
	} {
		want(t, poly.Deriv(c.p), meant(c.want), "Deriv", c.p)
	}
	singles(func(p []api.Cplx) {
		want(t, poly.Deriv(p), slope(meant(p)), "Deriv", p)
	})
}

func TestScale(t *testing.T) { // P11.1
	half := func(n int64) api.Cplx { return api.Cplx{Re: small(n, -1)} }
	for _, c := range []struct {
		p    []api.Cplx
		n    int
		want []api.Cplx
	}{
		{nil, 3, nil}, {zeros, -3, nil}, {of(5), 100, of(5)}, {of(1, 1, 1, 1), 1, of(1, 2, 4, 8)}, {of(3, 5, 7), 2, of(3, 20, 112)}, {of(3, 5, 4), -1, []api.Cplx{at(3, 0), half(5), at(1, 0)}}, {complexOf(1, 2, 3, 4, 0, 0), 3, complexOf(1, 2, 24, 32)}, {complexOf(0, -1, 0, 0, 0, 1), 5, complexOf(0, -1, 0, 0, 0, 1024)}, {append(of(0, 6), zeros...), 0, of(0, 6)},
	} {
		want(t, poly.Scale(c.p, c.n), meant(c.want), "Scale", c.p, c.n)
	}
	i := 0
	singles(func(p []api.Cplx) {
		i++
		for _, n := range []int{0, 1, -1, 31, -32, i % 500, -i} {
			want(t, poly.Scale(p, n), scaled(meant(p), n), "Scale", p, n)
		}
	})
}

// TestScaleHeld has n at both ends and beyond; what it comes to for higher
// coefficients isn't held.
func TestScaleHeld(t *testing.T) { // P11.1
	for _, c := range []struct{ n, held int }{
		{api.MaxE - 1, api.MaxE - 1}, {api.MaxE, api.MaxE}, {api.MaxE + 1, api.MaxE}, {math.MaxInt, api.MaxE}, {1 << 32, api.MaxE},
		{1 - api.MaxE, 1 - api.MaxE}, {-api.MaxE, -api.MaxE}, {-api.MaxE - 1, -api.MaxE}, {math.MinInt, -api.MaxE}, {-1 << 32, -api.MaxE},
		{math.MaxInt / 3, api.MaxE}, {math.MinInt/3 - 1, -api.MaxE}, {math.MaxInt/2 + 1, api.MaxE},
	} {
		for _, p := range append(few(), []api.Cplx{{Re: small(3, api.MaxE)}, {Im: small(-5, -api.MaxE)}, {Re: small(1, api.MaxE), Im: small(7, api.MaxE)}}, make([]api.Cplx, 25), append(make([]api.Cplx, api.MaxDegree), at(1, -3))) {
			want(t, poly.Scale(p, c.n), scaled(meant(p), c.held), "Scale", p, c.n)
		}
	}
}

func TestFromWritten(t *testing.T) { // P11.1: with the chapter's example
	for _, c := range []struct{ roots, want []api.Cplx }{
		{nil, of(1)}, {of(), of(1)}, {of(0), of(0, 1)}, {zeros, of(0, 0, 0, 0, 1)}, {of(1, -1), of(-1, 0, 1)}, {of(2), of(-2, 1)}, {of(2, 2), of(4, -4, 1)}, {of(1, 2, 3), of(-6, 11, -6, 1)}, {of(1, 2, 3, 4), of(24, -50, 35, -10, 1)}, {complexOf(0, 1, 0, -1), of(1, 0, 1)}, {complexOf(1, 1, 1, -1), of(2, -2, 1)}, {complexOf(0, 1), complexOf(0, -1, 1, 0)}, {complexOf(1, 2, 3, -4), complexOf(11, 2, -4, 2, 1, 0)}, {of(-1, -1, -1, -1, -1), of(1, 5, 10, 10, 5, 1)},
		{[]api.Cplx{{Re: small(1, -1)}, {Im: small(3, 4)}}, []api.Cplx{{Im: small(3, 3)}, {Re: small(-1, -1), Im: small(-3, 4)}, at(1, 0)}},
	} {
		want(t, poly.From(c.roots), meant(c.want), "From", c.roots)
	}
}

func TestFrom(t *testing.T) { // P11.1
	r := rand.New(rand.NewSource(116))
	for range 300 {
		for _, reach := range []int{60, api.MaxE + 50} {
			roots := someRoots(r, 7, 3, reach)
			var points []point
			for _, root := range roots {
				points = append(points, spot(root))
			}
			want(t, poly.From(roots), chosen(points), "From", roots)
		}
	}
	for range 10 {
		roots := someRoots(r, 50, 2, 60)
		wanted := []point{one()}
		for _, root := range roots {
			wanted = times(wanted, []point{nought().less(spot(root)), one()})
		}
		want(t, poly.From(roots), wanted, "From", roots)
	}
}
