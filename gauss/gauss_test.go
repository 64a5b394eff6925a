package gauss_test

import (
	"math"
	"math/rand"
	"testing"

	"annulus/api"
	"annulus/gauss"
)

func TestOf(t *testing.T) { // P8.1
	ends := []int64{0, 1, -1, 2, -2, 3, -3, 12, top, top + 1, -top - 1, 1 << 53, math.MaxInt64, math.MinInt64, math.MinInt64 + 1}
	for _, re := range ends {
		for _, im := range ends {
			want(t, gauss.Of(re, im), point{whole(re), whole(im)}, "Of", re, im)
		}
	}
}

func TestZero(t *testing.T) { // P8.1
	for _, c := range []struct {
		a    api.Cplx
		zero bool
	}{
		{api.Cplx{}, true}, {at(0, 0), true}, {at(1, 0), false}, {at(0, 1), false}, {at(-1, 0), false}, {at(0, -1), false}, {at(1, -1), false},
		{api.Cplx{Re: small(1, -api.MaxE)}, false}, {api.Cplx{Im: small(-1, -api.MaxE)}, false},
		// However 0 is written.
		{api.Cplx{Re: api.Dyad{E: 9}, Im: api.Dyad{M: api.Int{Neg: true, Mag: []uint32{0, 0}}, E: -7}}, true},
		{api.Cplx{Re: api.Dyad{M: api.Int{Mag: []uint32{0, 1, 0}}}}, false},
	} {
		asked(t, gauss.Zero(c.a), c.zero, "Zero", c.a)
	}
	singles(func(a api.Cplx) {
		asked(t, gauss.Zero(a), meant(a).norm().m.Sign() == 0, "Zero", a)
	})
}

func TestSame(t *testing.T) { // P8.1
	r := rand.New(rand.NewSource(83))
	pairs(func(a, b api.Cplx) {
		asked(t, gauss.Same(a, b), meant(a).less(meant(b)).norm().m.Sign() == 0, "Same", a, b)
		way := otherPoint(r, a)
		asked(t, gauss.Same(a, way), true, "Same", a, way)
		asked(t, gauss.Same(way, a), true, "Same", way, a)
	})
	for _, b := range []api.Cplx{at(1, 3), at(2, 2), at(2, 1), at(-1, 2), at(1, -2), at(-1, -2), at(0, 0), {Re: small(1, 1), Im: small(1, 2)}} {
		asked(t, gauss.Same(at(1, 2), b), false, "Same", at(1, 2), b)
		asked(t, gauss.Same(b, at(1, 2)), false, "Same", b, at(1, 2))
	}
}

func TestSums(t *testing.T) { // P8.1, P8.3
	want(t, gauss.Add(at(1, 2), at(3, -5)), meant(at(4, -3)), "Add")
	want(t, gauss.Sub(at(1, 2), at(3, -5)), meant(at(-2, 7)), "Sub")
	pairs(func(a, b api.Cplx) {
		want(t, gauss.Add(a, b), meant(a).plus(meant(b)), "Add", a, b)
		want(t, gauss.Sub(a, b), meant(a).less(meant(b)), "Sub", a, b)
	})
}

func TestMul(t *testing.T) { // P8.1, P8.3
	for _, c := range [][3]api.Cplx{
		{at(0, 1), at(0, 1), at(-1, 0)}, {at(1, 2), at(3, 4), at(-5, 10)}, {at(1, 2), at(1, -2), at(5, 0)}, {at(2, 0), at(3, 4), at(6, 8)},
		{at(0, 2), at(3, 4), at(-8, 6)}, {at(1, 1), at(1, 1), at(0, 2)}, {at(5, -7), at(0, 0), at(0, 0)}, {at(5, -7), at(1, 0), at(5, -7)},
	} {
		want(t, gauss.Mul(c[0], c[1]), meant(c[2]), "Mul", c[0], c[1])
	}
	pairs(func(a, b api.Cplx) {
		want(t, gauss.Mul(a, b), meant(a).times(meant(b)), "Mul", a, b)
	})
}

func TestNegConjNorm(t *testing.T) { // P8.1
	want(t, gauss.Neg(at(3, -4)), meant(at(-3, 4)), "Neg")
	want(t, gauss.Conj(at(3, -4)), meant(at(3, 4)), "Conj")
	wantDyad(t, gauss.Norm(at(3, -4)), whole(25), "Norm")
	wantDyad(t, gauss.Norm(at(0, 0)), whole(0), "Norm")
	singles(func(a api.Cplx) {
		want(t, gauss.Neg(a), meant(a).both(other), "Neg", a)
		want(t, gauss.Conj(a), meant(a).mirrored(), "Conj", a)
		wantDyad(t, gauss.Norm(a), meant(a).norm(), "Norm", a)
	})
}

func TestScale(t *testing.T) { // P8.1
	i := 0
	singles(func(a api.Cplx) {
		i++
		for _, n := range []int{0, 1, -1, 31, 32, -33, i % 500, -i} {
			want(t, gauss.Scale(a, n), meant(a).both(func(x number) number { return moved(x, n) }), "Scale", a, n)
		}
	})
	for _, c := range []struct{ n, held int }{
		{api.MaxE, api.MaxE}, {-api.MaxE, -api.MaxE}, {api.MaxE + 1, api.MaxE}, {-api.MaxE - 1, -api.MaxE}, {api.MaxE - 1, api.MaxE - 1}, {1 - api.MaxE, 1 - api.MaxE},
		{math.MaxInt, api.MaxE}, {math.MinInt, -api.MaxE}, {1 << 32, api.MaxE}, {-1 << 32, -api.MaxE},
	} {
		for _, a := range append(few(), api.Cplx{Re: small(3, api.MaxE), Im: small(-5, -api.MaxE)}) {
			want(t, gauss.Scale(a, c.n), meant(a).both(func(x number) number { return moved(x, c.held) }), "Scale", a, c.n)
		}
	}
}

func TestTimes(t *testing.T) { // P8.1
	want(t, gauss.Times(at(3, -4), small(-5, 0)), meant(at(-15, 20)), "Times")
	want(t, gauss.Times(at(3, -4), api.Dyad{}), meant(at(0, 0)), "Times")
	pairs(func(a, b api.Cplx) {
		for _, d := range []api.Dyad{b.Re, b.Im, a.Re} {
			want(t, gauss.Times(a, d), meant(a).both(func(x number) number { return product(x, value(d)) }), "Times", a, d)
		}
	})
}

// powers holds a's powers of each n up to most against products.
func powers(t *testing.T, a api.Cplx, most int) {
	t.Helper()
	power := point{whole(1), whole(0)}
	for n := range most + 1 {
		want(t, gauss.Pow(a, n), power, "Pow", a, n)
		power = power.times(meant(a))
	}
}

func TestPow(t *testing.T) { // P8.1
	for n, w := range [5][2]int64{{1, 0}, {0, 1}, {-1, 0}, {0, -1}, {1, 0}} {
		want(t, gauss.Pow(at(0, 1), n), meant(at(w[0], w[1])), "Pow", at(0, 1), n)
	}
	for _, a := range few() {
		powers(t, a, api.MaxPow)
		least, most := gauss.Pow(a, 0), gauss.Pow(a, api.MaxPow)
		want(t, least, point{whole(1), whole(0)}, "Pow", a, 0)
		for _, n := range []int{-1, -2, -64, math.MinInt} {
			want(t, gauss.Pow(a, n), meant(least), "Pow", a, n)
		}
		for _, n := range []int{api.MaxPow + 1, api.MaxPow + 2, 1000, math.MaxInt} {
			want(t, gauss.Pow(a, n), meant(most), "Pow", a, n)
		}
	}
	i := 0
	singles(func(a api.Cplx) {
		i++
		if i%7 == 0 {
			powers(t, a, 4)
		}
		if i%200 == 0 && a.Re.E < 100 && a.Re.E > -100 {
			powers(t, a, api.MaxPow)
		}
	})
	// Parts that lie far from each other, the powers of which are long.
	a := api.Cplx{Re: small(1, api.MaxE), Im: small(3, -api.MaxE)}
	powers(t, a, 9)
}
