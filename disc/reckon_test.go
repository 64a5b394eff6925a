package disc_test

import (
	"math"
	"testing"

	"annulus/api"
	"annulus/disc"
	"annulus/gauss"
	"annulus/quot"
)

// exponents: from one end to the other, and beyond both, where they are held.
var exponents = []int{0, 1, 2, 3, 4, 5, 17, 62, 63, 64, 65, 66, 1001, math.MaxInt, math.MaxInt - 1, -1, -2, math.MinInt, math.MinInt + 1}

func TestSumsWritten(t *testing.T) { // P10.1
	for _, c := range []struct{ a, b, sum, less api.Disc }{
		{disc3(1, 2, 3), disc3(10, -30, 5), disc3(11, -28, 8), disc3(-1, -2, 3)}, {disc3(1, 2, 0), disc3(-1, -2, 0), api.Disc{}, disc3(-1, -2, 0)}, {disc3(1, 2, -3), disc3(1, 1, 5), disc3(2, 3, 5), disc3(-1, -2, 0)}, {disc3(0, 0, 7), disc3(1, 1, -5), disc3(1, 1, 7), disc3(0, 0, 7)}, {disc3(-4, 0, -7), disc3(1, 1, -5), disc3(-3, 1, 0), disc3(4, 0, 0)},
	} {
		want(t, disc.Add(c.a, c.b), meant(c.sum), "Add", c.a, c.b)
		want(t, disc.Add(c.b, c.a), meant(c.sum), "Add", c.b, c.a)
		want(t, disc.Neg(c.a), meant(c.less), "Neg", c.a)
	}
}

func TestSums(t *testing.T) { // P10.1
	pairs(func(a, b api.Disc) {
		x, y := meant(a), meant(b)
		want(t, disc.Add(a, b), round{x.c.plus(y.c), sum(x.r, y.r)}, "Add", a, b)
	})
	singles(func(d api.Disc) {
		a := meant(d)
		want(t, disc.Neg(d), round{a.c.mirrored(), a.r}, "Neg", d)
	})
}

func TestFarWritten(t *testing.T) { // P10.2: of the middle alone, whatever R is
	for _, c := range []struct {
		re, im int64
		p      int
		want   api.Dyad
	}{
		{3, 4, 3, small(5, 0)}, {3, 4, 2, small(6, 0)}, {3, 4, 1, small(8, 0)}, {3, 4, 0, small(8, 0)}, {3, 4, math.MinInt, small(8, 0)}, {-3, 4, 99, small(5, 0)}, {3, -4, math.MaxInt, small(5, 0)}, {0, 0, 5, api.Dyad{}},
		{0, -7, 3, small(7, 0)}, {7, 0, 2, small(8, 0)}, {1, 1, 1, small(2, 0)}, {1, 1, 2, small(3, -1)}, {1, 1, 3, small(3, -1)}, {1, 1, 4, small(3, -1)}, {1, 1, 5, small(23, -4)}, {1, 1, 8, small(182, -7)},
	} {
		for _, r := range []int64{0, 1, 100, -3} {
			got := disc.Far(disc3(c.re, c.im, r), c.p)
			wantDyad(t, got, value(c.want), "Far", disc3(c.re, c.im, r), c.p)
		}
	}
}

func TestFar(t *testing.T) { // P10.2
	i := 0
	singles(func(d api.Disc) {
		i++
		for _, p := range []int{i % 150, precisions[i%len(precisions)]} {
			got := disc.Far(d, p)
			wantDyad(t, got, distance(meant(d).c, p), "Far", d, p)
			r, _ := quot.Root(gauss.Norm(d.C), p, api.Up)
			wantDyad(t, got, value(r), "Far", d, p)
		}
	})
	// Beyond both ends at which the multiples are held.
	for _, e := range []int{-3 * api.MaxE, -api.MaxE - 1, api.MaxE + 9, 3 * api.MaxE} {
		for _, p := range precisions {
			d := api.Disc{C: api.Cplx{Re: small(3, e), Im: small(-5, e)}}
			wantDyad(t, disc.Far(d, p), distance(meant(d).c, p), "Far", d, p)
		}
	}
}

func TestMulWritten(t *testing.T) { // P10.2
	for _, c := range []struct {
		a, b api.Disc
		p    int
		want api.Disc
	}{
		// Points.
		{disc3(0, 1, 0), disc3(0, 1, 0), 9, disc3(-1, 0, 0)}, {disc3(1, 2, 0), disc3(3, 4, 0), 1, disc3(-5, 10, 0)}, {disc3(5, 0, -2), disc3(7, 0, -3), 1, disc3(35, 0, 0)}, {api.Disc{}, api.Disc{}, 5, api.Disc{}},
		// One of them a point: only it is asked how far it lies.
		{disc3(3, 4, 0), disc3(1, 1, 2), 9, disc3(-1, 7, 10)}, {disc3(3, 4, 0), disc3(1, 1, 2), 2, disc3(-1, 7, 12)}, {disc3(3, 4, 0), disc3(1, 1, 1), 1, disc3(-1, 7, 8)}, {disc3(0, 0, 0), disc3(1, 1, 2), 5, api.Disc{}},
		// Around 0.
		{disc3(0, 0, 2), disc3(0, 0, 3), 9, disc3(0, 0, 6)}, {disc3(0, 0, 3), disc3(0, 0, 3), 3, disc3(0, 0, 10)}, {disc3(0, 0, 2), disc3(3, 4, 1), 9, disc3(0, 0, 12)},
		// All three: 5 times 2, 13 times 1, 2 times 1.
		{disc3(3, 4, 1), disc3(5, 12, 2), 9, disc3(-33, 56, 25)}, {disc3(3, 4, 1), disc3(5, 12, 2), 5, disc3(-33, 56, 25)}, {disc3(3, 4, 1), disc3(5, 12, 2), 4, disc3(-33, 56, 26)},
		// Lengths are rounded, too: 13 to 14; 5 to 6, 13 to 16; 5 to 8.
		{disc3(3, 4, 1), disc3(5, 12, 2), 3, disc3(-33, 56, 28)}, {disc3(3, 4, 1), disc3(5, 12, 2), 2, disc3(-33, 56, 32)}, {disc3(3, 4, 1), disc3(5, 12, 2), 1, disc3(-33, 56, 64)}, {disc3(3, 4, 1), disc3(5, 12, 2), -9, disc3(-33, 56, 64)},
		// Below 0 counts as 0.
		{disc3(3, 4, -1), disc3(5, 12, 2), 9, disc3(-33, 56, 10)}, {disc3(3, 4, 1), disc3(5, 12, -2), 9, disc3(-33, 56, 13)},
	} {
		want(t, disc.Mul(c.a, c.b, c.p), meant(c.want), "Mul", c.a, c.b, c.p)
		want(t, disc.Mul(c.b, c.a, c.p), meant(c.want), "Mul", c.b, c.a, c.p)
	}
}

func TestMul(t *testing.T) { // P10.2
	i := 0
	pairs(func(a, b api.Disc) {
		i++
		for _, p := range []int{i % 150, precisions[i%len(precisions)]} {
			want(t, disc.Mul(a, b, p), meant(a).times(meant(b), p), "Mul", a, b, p)
		}
	})
	// R's beyond both ends at which the multiples are held.
	for _, e := range []int{-3 * api.MaxE, -api.MaxE / 2, api.MaxE / 2, 3 * api.MaxE} {
		for _, p := range precisions {
			a := api.Disc{C: api.Cplx{Re: small(3, e), Im: small(5, e-7)}, R: small(7, e-99)}
			b := api.Disc{C: api.Cplx{Re: small(-9, e), Im: small(1, e)}, R: small(5, e+3)}
			want(t, disc.Mul(a, b, p), meant(a).times(meant(b), p), "Mul", a, b, p)
		}
	}
}

func TestPowWritten(t *testing.T) { // P10.2
	for _, c := range []struct {
		d    api.Disc
		n, p int
		want api.Disc
	}{
		{disc3(3, 4, 1), 0, 9, disc3(1, 0, 0)}, {disc3(3, 4, 1), -7, 9, disc3(1, 0, 0)}, {api.Disc{}, 0, 9, disc3(1, 0, 0)}, {disc3(3, 4, 1), 1, 9, disc3(3, 4, 1)}, {disc3(3, 4, 5), 1, 2, disc3(3, 4, 6)}, {disc3(3, 4, -5), 1, 2, disc3(3, 4, 0)}, {api.Disc{}, 1, 9, api.Disc{}},
		{disc3(0, 1, 0), 2, 9, disc3(-1, 0, 0)}, {disc3(0, 1, 0), 64, 9, disc3(1, 0, 0)}, {disc3(0, 1, 0), 65, 9, disc3(1, 0, 0)}, {disc3(0, 1, 0), 67, 9, disc3(1, 0, 0)}, {disc3(0, 1, -3), 3, 9, disc3(0, -1, 0)},
		// Of 5 and 1: 11, then 25 and 5 times 11 and 11.
		{disc3(3, 4, 1), 2, 9, disc3(-7, 24, 11)}, {disc3(3, 4, 1), 3, 9, disc3(-117, 44, 91)},
		// Rounded at each step: 11 to 12, then 28 and 5 times 12 and 12 to 112.
		{disc3(3, 4, 1), 2, 3, disc3(-7, 24, 12)}, {disc3(3, 4, 1), 3, 3, disc3(-117, 44, 112)}, {disc3(0, 0, 3), 2, 2, disc3(0, 0, 12)}, {disc3(0, 0, 3), 3, 2, disc3(0, 0, 48)}, {disc3(0, 0, 3), 4, 2, disc3(0, 0, 192)},
		// One behind the other: by squares it would be 112.
		{disc3(0, 0, 3), 4, 3, disc3(0, 0, 96)},
	} {
		want(t, disc.Pow(c.d, c.n, c.p), meant(c.want), "Pow", c.d, c.n, c.p)
	}
}

// powers holds d's powers of each n up to most against products.
func powers(t *testing.T, d api.Disc, most, p int) {
	t.Helper()
	power := disc.Of(at(1, 0))
	for n := range most + 1 {
		want(t, disc.Pow(d, n, p), meant(power), "Pow", d, n, p)
		power = disc.Mul(power, d, p)
	}
}

func TestPow(t *testing.T) { // P10.2
	for i, d := range few() {
		if i%20 == 3 || i%20 == 14 {
			powers(t, d, api.MaxPow, 1+i)
			least, most := meant(disc.Pow(d, 0, 1+i)), meant(disc.Pow(d, api.MaxPow, 1+i))
			for _, n := range exponents {
				switch {
				case n <= 0:
					want(t, disc.Pow(d, n, 1+i), least, "Pow", d, n)
				case n >= api.MaxPow:
					want(t, disc.Pow(d, n, 1+i), most, "Pow", d, n)
				}
			}
		}
	}
	i := 0
	singles(func(d api.Disc) {
		i++
		if i%9 == 0 {
			powers(t, d, 4, i%99)
		}
	})
	for i, p := range precisions {
		powers(t, few()[7*i+3], 5, p)
	}
	// Parts that lie far from each other, the powers of which are long.
	powers(t, api.Disc{C: api.Cplx{Re: small(-5, api.MaxE), Im: small(3, -api.MaxE)}, R: small(7, 9)}, 5, 40)
	powers(t, api.Disc{C: api.Cplx{Re: small(7, -api.MaxE), Im: small(3, 0)}, R: small(1, -99)}, 9, 40)
}

// TestLong has numbers with very many noughts below, which aren't to be
// multiplied again and again.
func TestLong(t *testing.T) { // P10.2
	long := api.Dyad{M: api.Int{Mag: append(make([]uint32, 1<<18), 5)}, E: -1 << 23}
	d := api.Disc{C: api.Cplx{Re: long, Im: small(-3, 90)}, R: long}
	short := api.Disc{C: api.Cplx{Re: small(5, 0), Im: small(-3, 90)}, R: small(5, 0)}
	want(t, disc.Pow(d, 20, 30), meant(disc.Pow(short, 20, 30)), "Pow of a long one", 20)
	want(t, disc.Mul(d, d, 30), meant(disc.Mul(short, short, 30)), "Mul of a long one")
	wantDyad(t, disc.Far(d, 30), value(disc.Far(short, 30)), "Far of a long one")
	want(t, disc.Grow(d, 7), meant(disc.Grow(short, 7)), "Grow of a long one")
	asked(t, disc.Has(d, api.Cplx{Re: long, Im: short.C.Im}), true, "Has of a long one")
	asked(t, disc.Apart(d, short) || !disc.In(d, short) || !disc.Same(d, short), false, "Apart, In, Same of a long one")
	around := disc.Around(api.Rect{Re: api.Real{Lo: long, Hi: small(7, 0)}, Im: api.Real{Lo: long, Hi: long}}, 30)
	want(t, around, meant(disc3(6, 5, 1)), "Around of a long one")
}
