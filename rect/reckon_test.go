package rect_test

import (
	"math"
	"testing"

	"annulus/api"
	"annulus/real"
	"annulus/rect"
)

// precisions: where a limb's border is passed, and where p is held.
var precisions = []int{1, 0, math.MinInt, 2, 3, 31, 32, 33, 64, 97, api.MaxBits, api.MaxBits + 1, math.MaxInt}

// exponents: from one end to the other, and beyond both, where they are held.
var exponents = []int{0, 1, 2, 3, 4, 5, 8, 17, 62, 63, 64, 65, 66, 67, 1001, math.MaxInt, math.MaxInt - 1, -1, -2, -3, math.MinInt, math.MinInt + 1}

func TestSumsWritten(t *testing.T) { // P9.1
	for _, x := range turned(from4(1, 2, -3, 5)) {
		for _, y := range turned(from4(10, 30, -9, -8)) {
			want(t, rect.Add(x, y), meant(from4(11, 32, -12, -3)), "Add", x, y)
			want(t, rect.Sub(x, y), meant(from4(-29, -8, 5, 14)), "Sub", x, y)
		}
		want(t, rect.Neg(x), meant(from4(-2, -1, -5, 3)), "Neg", x)
	}
}

func TestSums(t *testing.T) { // P9.1
	pairs(func(x, y api.Rect) {
		want(t, rect.Add(x, y), meant(x).plus(meant(y)), "Add", x, y)
		want(t, rect.Sub(x, y), meant(x).less(meant(y)), "Sub", x, y)
	})
	singles(func(x api.Rect) {
		want(t, rect.Neg(x), meant(x).mirrored(), "Neg", x)
	})
}

func TestMulWritten(t *testing.T) { // P9.1
	for _, c := range [][3]api.Rect{
		// Points.
		{from4(0, 0, 1, 1), from4(0, 0, 1, 1), from4(-1, -1, 0, 0)}, {from4(1, 1, 2, 2), from4(3, 3, 4, 4), from4(-5, -5, 10, 10)}, {from4(1, 1, 2, 2), from4(1, 1, -2, -2), from4(5, 5, 0, 0)},
		// Rectangles: each part of each with its own numbers.
		{from4(1, 2, 3, 4), from4(5, 6, 7, 8), from4(-27, -9, 22, 40)}, {from4(-1, 2, 3, 4), from4(5, 7, -9, 8), from4(-39, 50, -3, 44)},
		{from4(1, 2, 0, 0), from4(5, 6, 7, 8), from4(5, 12, 7, 16)}, {from4(0, 0, 1, 2), from4(5, 6, 7, 8), from4(-16, -7, 5, 12)}, {from4(0, 0, 0, 0), from4(5, 6, 7, 8), from4(0, 0, 0, 0)},
		// Not what squares are.
		{from4(-1, 2, 0, 0), from4(-1, 2, 0, 0), from4(-2, 4, 0, 0)}, {from4(0, 0, -1, 2), from4(0, 0, -1, 2), from4(-4, 2, 0, 0)},
	} {
		for _, x := range turned(c[0]) {
			for _, y := range turned(c[1]) {
				want(t, rect.Mul(x, y), meant(c[2]), "Mul", x, y)
				want(t, rect.Mul(y, x), meant(c[2]), "Mul", y, x)
			}
		}
	}
}

func TestMul(t *testing.T) { // P9.1
	pairs(func(x, y api.Rect) {
		want(t, rect.Mul(x, y), meant(x).times(meant(y)), "Mul", x, y)
	})
}

func TestSquareAndNormWritten(t *testing.T) { // P9.1: with the chapter's example
	for _, c := range []struct {
		x, square api.Rect
		norm      api.Real
	}{
		{from4(1, 1, 0, 0), from4(1, 1, 0, 0), from(1, 1)}, {from4(0, 0, 1, 1), from4(-1, -1, 0, 0), from(1, 1)}, {from4(3, 3, -4, -4), from4(-7, -7, -24, -24), from(25, 25)},
		{from4(-1, 2, -3, 1), from4(-9, 4, -12, 6), from(0, 13)}, {from4(1, 2, 3, 5), from4(-24, -5, 6, 20), from(10, 29)}, {from4(-2, -1, -5, -3), from4(-24, -5, 6, 20), from(10, 29)},
		{from4(-1, 2, 0, 0), from4(0, 4, 0, 0), from(0, 4)}, {from4(0, 0, -1, 2), from4(-4, 0, 0, 0), from(0, 4)}, {api.Rect{}, api.Rect{}, from(0, 0)}, {from4(-1, 2, 3, 4), from4(-16, -5, -8, 16), from(9, 20)},
	} {
		for _, x := range turned(c.x) {
			want(t, rect.Square(x), meant(c.square), "Square", x)
			wantReal(t, rect.Norm(x), numbers(c.norm), "Norm", x)
		}
	}
}

func TestSquareAndNorm(t *testing.T) { // P9.1
	singles(func(x api.Rect) {
		want(t, rect.Square(x), meant(x).squared(), "Square", x)
		wantReal(t, rect.Norm(x), meant(x).norm(), "Norm", x)
	})
}

func TestPowWritten(t *testing.T) { // P9.1
	for _, c := range []struct {
		x    api.Rect
		n    int
		want api.Rect
	}{
		{from4(-1, 2, 3, 4), 0, from4(1, 1, 0, 0)}, {api.Rect{}, 0, from4(1, 1, 0, 0)}, {from4(-1, 2, 3, 4), -5, from4(1, 1, 0, 0)}, {from4(-1, 2, 3, 4), 1, from4(-1, 2, 3, 4)}, {api.Rect{}, 1, api.Rect{}},
		{from4(0, 0, 1, 1), 2, from4(-1, -1, 0, 0)}, {from4(0, 0, 1, 1), 3, from4(0, 0, -1, -1)}, {from4(0, 0, 1, 1), 64, from4(1, 1, 0, 0)}, {from4(0, 0, 1, 1), 65, from4(1, 1, 0, 0)}, {from4(0, 0, 1, 1), 99, from4(1, 1, 0, 0)},
		// By products, not by squares: of -1 to 2 these would be 0 to 4, 0 to 16.
		{from4(-1, 2, 0, 0), 2, from4(-2, 4, 0, 0)}, {from4(-1, 2, 0, 0), 3, from4(-4, 8, 0, 0)}, {from4(-1, 2, 0, 0), 4, from4(-8, 16, 0, 0)},
		// One behind the other: the square of the square would have Re from -231 to 189.
		{from4(1, 2, 3, 4), 2, from4(-15, -5, 6, 16)}, {from4(1, 2, 3, 4), 3, from4(-94, -23, -54, 17)}, {from4(1, 2, 3, 4), 4, from4(-256, 193, -484, -35)},
	} {
		for _, x := range turned(c.x) {
			want(t, rect.Pow(x, c.n), meant(c.want), "Pow", x, c.n)
		}
	}
}

// powers holds x's powers of each n up to most against products.
func powers(t *testing.T, x api.Rect, most int) {
	t.Helper()
	power := alone(1, 0)
	for n := range most + 1 {
		want(t, rect.Pow(x, n), power, "Pow", x, n)
		power = power.times(meant(x))
	}
}

func TestPow(t *testing.T) { // P9.1
	for i, x := range few() {
		if i%20 == 7 {
			powers(t, x, api.MaxPow)
			least, most := meant(rect.Pow(x, 0)), meant(rect.Pow(x, api.MaxPow))
			for _, n := range exponents {
				switch {
				case n <= 0:
					want(t, rect.Pow(x, n), least, "Pow", x, n)
				case n >= api.MaxPow:
					want(t, rect.Pow(x, n), most, "Pow", x, n)
				}
			}
		}
	}
	i := 0
	singles(func(x api.Rect) {
		i++
		if i%9 == 0 {
			powers(t, x, 4)
		}
	})
	// Parts that lie far from each other, the powers of which are long.
	powers(t, api.Rect{Re: api.Real{Lo: small(-5, -api.MaxE), Hi: small(1, api.MaxE)}, Im: api.Real{Lo: small(3, -api.MaxE), Hi: small(7, 9)}}, 7)
}

// TestPowLong has numbers with very many noughts below, which aren't to be
// multiplied again and again.
func TestPowLong(t *testing.T) { // P9.1
	long := api.Dyad{M: api.Int{Mag: append(make([]uint32, 1<<18), 5)}, E: -1 << 23}
	x := api.Rect{Re: api.Real{Lo: small(-3, api.MaxE), Hi: small(7, api.MaxE)}, Im: api.Real{Lo: long, Hi: long}}
	short := api.Rect{Re: x.Re, Im: from(5, 5)}
	want(t, rect.Pow(x, 30), meant(rect.Pow(short, 30)), "Pow of a long one", 30)
}

// TestInvWritten has what is wanted in parts of a whole.
func TestInvWritten(t *testing.T) { // P9.2
	for _, c := range []struct {
		x    api.Rect
		p    int
		want api.Rect
	}{
		{from4(1, 1, 0, 0), 5, from4(1, 1, 0, 0)}, {from4(0, 0, 1, 1), 5, from4(0, 0, -1, -1)}, {from4(1, 1, 1, 1), 5, parted(1, 1, -1, -1, 1)}, {from4(-2, -2, 0, 0), 5, parted(-1, -1, 0, 0, 1)},
		{from4(2, 2, -2, -2), 1, parted(1, 1, 1, 1, 2)}, {from4(2, 4, 0, 0), 5, parted(1, 8, 0, 0, 3)}, {from4(0, 0, 2, 4), 5, parted(0, 0, -8, -1, 3)}, {from4(-1, 1, 2, 2), 4, parted(-4, 4, -8, -6, 4)},
		// 1 by 9 to two bits: from 3 to 4 parts of 32; three times that, to two bits: from 8 to 12.
		{from4(3, 3, 0, 0), 2, parted(8, 12, 0, 0, 5)}, {from4(0, 0, 3, 3), 2, parted(0, 0, -12, -8, 5)}, {from4(3, 3, 0, 0), 1, parted(2, 8, 0, 0, 4)}, {from4(3, 3, 0, 0), math.MinInt, parted(2, 8, 0, 0, 4)},
	} {
		for _, x := range turned(c.x) {
			got, e := rect.Inv(x, c.p)
			errs(t, e, api.OK, "Inv", x, c.p)
			want(t, got, meant(c.want), "Inv", x, c.p)
		}
	}
}

// inverts holds Inv against real's Div by what the Norm is, and tells whether
// there is one.
func inverts(t *testing.T, x api.Rect, p int) bool {
	t.Helper()
	got, e := rect.Inv(x, p)
	a := meant(x)
	if a.norm().has(whole(0)) != a.has(spot(api.Cplx{})) {
		t.Fatal("a Norm has 0 just where there is 0", shownRect(x))
	}
	if a.has(spot(api.Cplx{})) {
		errs(t, e, api.ErrZero, "Inv", x, p)
		asked(t, alike(got, api.Rect{}), true, "Inv", x, p)
		return false
	}
	errs(t, e, api.OK, "Inv", x, p)
	norm := realOf(a.norm())
	re, _ := real.Div(realOf(a.re), norm, p)
	im, _ := real.Div(realOf(a.im.mirrored()), norm, p)
	want(t, got, area{numbers(re), numbers(im)}, "Inv", x, p)
	return true
}

func TestInv(t *testing.T) { // P9.2
	i, some := 0, 0
	singles(func(x api.Rect) {
		i++
		inverts(t, x, precisions[i%len(precisions)])
		if inverts(t, x, i%70) {
			some++
		}
	})
	asked(t, some > i/2 && some < i, true, "Inv: of both kinds", some, i)
}

// TestDivWritten has what is wanted in parts of a whole.
func TestDivWritten(t *testing.T) { // P9.2
	for _, c := range []struct {
		x, y api.Rect
		p    int
		want api.Rect
	}{
		{from4(1, 1, 0, 0), from4(1, 1, 1, 1), 5, parted(1, 1, -1, -1, 1)}, {from4(1, 1, 2, 2), from4(0, 0, 1, 1), 5, from4(2, 2, -1, -1)}, {from4(-5, -5, 10, 10), from4(2, 2, 0, 0), 9, parted(-5, -5, 10, 10, 1)},
		{from4(1, 2, 3, 5), from4(2, 2, 2, 2), 9, parted(4, 7, 1, 4, 2)}, {from4(1, 2, 3, 5), from4(-2, -2, 0, 0), 9, parted(-2, -1, -5, -3, 1)},
		// As 1 by 3 is from 8 to 12 parts of 32: from 24 to 36 of them, 36 rounded to 48.
		{from4(3, 3, 0, 0), from4(3, 3, 0, 0), 2, parted(24, 48, 0, 0, 5)}, {from4(0, 0, 3, 3), from4(3, 3, 0, 0), 2, parted(0, 0, 24, 48, 5)}, {from4(0, 0, 3, 3), from4(0, 0, 3, 3), 2, parted(24, 48, 0, 0, 5)}, {api.Rect{}, from4(3, 4, 5, 6), 7, api.Rect{}},
	} {
		for _, x := range turned(c.x) {
			for _, y := range turned(c.y) {
				got, e := rect.Div(x, y, c.p)
				errs(t, e, api.OK, "Div", x, y, c.p)
				want(t, got, meant(c.want), "Div", x, y, c.p)
			}
		}
	}
}

// divides holds Div against Inv, products and real's Round.
func divides(t *testing.T, x, y api.Rect, p int) {
	t.Helper()
	got, e := rect.Div(x, y, p)
	inverse, f := rect.Inv(y, p)
	errs(t, e, f, "Div", x, y, p)
	if f != api.OK {
		asked(t, alike(got, api.Rect{}), true, "Div", x, y, p)
		return
	}
	all := meant(x).times(meant(inverse))
	re, im := real.Round(realOf(all.re), p), real.Round(realOf(all.im), p)
	want(t, got, area{numbers(re), numbers(im)}, "Div", x, y, p)
}

func TestDiv(t *testing.T) { // P9.2
	i := 0
	pairs(func(x, y api.Rect) {
		i++
		divides(t, x, y, precisions[i%len(precisions)])
		divides(t, x, y, i%70)
	})
}

func TestErrors(t *testing.T) { // P9.2: where there is 0, within, on a side, at a corner
	little := api.Real{Lo: small(-1, -api.MaxE), Hi: small(1, -api.MaxE)}
	nought := api.Real{Lo: api.Dyad{M: api.Int{Neg: true, Mag: []uint32{0, 0}}, E: -7}, Hi: api.Dyad{E: far}}
	for _, y := range []api.Rect{{}, from4(0, 0, 0, 0), from4(0, 1, 0, 1), from4(1, 0, -1, 0), from4(-1, 0, -1, 1), from4(-1, 1, -1, 1), from4(1, -1, 1, -1), from4(-5, 9, 0, 0), {Re: little, Im: little}, {Re: nought, Im: little}, {Re: nought, Im: nought}} {
		for _, p := range precisions {
			asked(t, inverts(t, y, p), false, "Inv", y, p)
			for _, x := range []api.Rect{{}, from4(1, 2, 3, 4), from4(-1, 1, 0, 0), y} {
				got, e := rect.Div(x, y, p)
				errs(t, e, api.ErrZero, "Div", x, y, p)
				asked(t, alike(got, api.Rect{}), true, "Div", x, y, p)
			}
		}
	}
	// Where only one part has 0 there is something to divide by.
	for _, y := range []api.Rect{from4(-1, 1, 1, 2), from4(0, 0, -2, -1), from4(1, 1, -3, 3), {Re: little, Im: from(1, 1)}, {Re: api.Real{Lo: small(1, -api.MaxE), Hi: small(1, 0)}, Im: from(-1, 1)}} {
		for _, p := range precisions {
			asked(t, inverts(t, y, p), true, "Inv", y, p)
			divides(t, from4(1, -2, 3, 4), y, p)
		}
	}
}
