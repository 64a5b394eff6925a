package real_test

import (
	"math"
	"testing"

	"annulus/api"
	"annulus/quot"
	"annulus/real"
)

// precisions: where a limb's border is passed, and where p is held.
var precisions = []int{1, 0, math.MinInt, 2, 3, 31, 32, 33, 64, 97, api.MaxBits, api.MaxBits + 1, math.MaxInt}

// exponents: from one end to the other, and beyond both, where they are held.
var exponents = []int{0, 1, 2, 3, 4, 5, 8, 17, 62, 63, 64, 65, 66, 67, 1001, math.MaxInt, math.MaxInt - 1, -1, -2, -3, math.MinInt, math.MinInt + 1}

func TestSumsWritten(t *testing.T) { // P7.1
	for _, c := range []struct{ x, y, sum, less api.Real }{
		{from(1, 2), from(3, 5), from(4, 7), from(-4, -1)}, {from(2, 1), from(3, 5), from(4, 7), from(-4, -1)}, {from(1, 2), from(5, 3), from(4, 7), from(-4, -1)},
		{from(-1, 2), from(-1, 2), from(-2, 4), from(-3, 3)}, {from(0, 0), from(-3, 7), from(-3, 7), from(-7, 3)}, {from(4, 4), from(4, 4), from(8, 8), from(0, 0)},
	} {
		want(t, real.Add(c.x, c.y), meant(c.sum), "Add", c.x, c.y)
		want(t, real.Sub(c.x, c.y), meant(c.less), "Sub", c.x, c.y)
	}
}

func TestSums(t *testing.T) { // P7.1
	pairs(func(x, y api.Real) {
		want(t, real.Add(x, y), among(sum, meant(x), meant(y)), "Add", x, y)
		want(t, real.Sub(x, y), among(difference, meant(x), meant(y)), "Sub", x, y)
	})
}

// TestMulWritten has each side of 0 by each other one; of two across it each of
// the corners is the farthest one once.
func TestMulWritten(t *testing.T) { // P7.1
	for _, c := range [][3]api.Real{
		{from(-3, -2), from(-7, -5), from(10, 21)}, {from(-3, -2), from(-5, 7), from(-21, 15)}, {from(-3, -2), from(5, 7), from(-21, -10)},
		{from(-2, 3), from(-7, -5), from(-21, 14)}, {from(-2, 3), from(5, 7), from(-14, 21)},
		{from(2, 3), from(-7, -5), from(-21, -10)}, {from(2, 3), from(-5, 7), from(-15, 21)}, {from(2, 3), from(5, 7), from(10, 21)},
		{from(-2, 3), from(-5, 7), from(-15, 21)}, {from(-3, 2), from(-5, 7), from(-21, 15)}, {from(-3, 2), from(-7, 5), from(-15, 21)}, {from(-2, 3), from(-7, 5), from(-21, 15)},
		{from(-1, 10), from(-1, 10), from(-10, 100)}, {from(-10, 1), from(-10, 1), from(-10, 100)}, {from(-10, 1), from(-1, 10), from(-100, 10)},
		{from(0, 3), from(-5, 7), from(-15, 21)}, {from(-3, 0), from(-5, 7), from(-21, 15)}, {from(0, 3), from(-5, 0), from(-15, 0)}, {from(0, 0), from(-5, 7), from(0, 0)}, {from(-5, 7), from(0, 0), from(0, 0)},
		{from(3, -2), from(7, -5), from(-15, 21)}, {from(4, 4), from(-3, -3), from(-12, -12)},
	} {
		want(t, real.Mul(c[0], c[1]), meant(c[2]), "Mul", c[0], c[1])
		want(t, real.Mul(c[1], c[0]), meant(c[2]), "Mul", c[1], c[0])
	}
}

func TestMul(t *testing.T) { // P7.1
	pairs(func(x, y api.Real) {
		want(t, real.Mul(x, y), among(product, meant(x), meant(y)), "Mul", x, y)
	})
}

// TestOneWritten has the chapter's example.
func TestOneWritten(t *testing.T) { // P7.1
	for _, c := range []struct{ x, other, square, away api.Real }{
		{from(-1, 2), from(-2, 1), from(0, 4), from(0, 2)}, {from(2, -1), from(-2, 1), from(0, 4), from(0, 2)}, {from(-3, 2), from(-2, 3), from(0, 9), from(0, 3)},
		{from(1, 2), from(-2, -1), from(1, 4), from(1, 2)}, {from(-2, -1), from(1, 2), from(1, 4), from(1, 2)}, {from(0, 2), from(-2, 0), from(0, 4), from(0, 2)}, {from(-2, 0), from(0, 2), from(0, 4), from(0, 2)},
		{from(0, 0), from(0, 0), from(0, 0), from(0, 0)}, {from(-3, -3), from(3, 3), from(9, 9), from(3, 3)}, {from(-3, 3), from(-3, 3), from(0, 9), from(0, 3)},
	} {
		want(t, real.Neg(c.x), meant(c.other), "Neg", c.x)
		want(t, real.Square(c.x), meant(c.square), "Square", c.x)
		want(t, real.Abs(c.x), meant(c.away), "Abs", c.x)
	}
}

func TestOne(t *testing.T) { // P7.1
	singles(func(x api.Real) {
		want(t, real.Neg(x), under(other, meant(x)), "Neg", x)
		want(t, real.Square(x), under(square, meant(x)), "Square", x)
		want(t, real.Abs(x), under(away, meant(x)), "Abs", x)
	})
}

func TestPowWritten(t *testing.T) { // P7.1
	for _, c := range []struct {
		x    api.Real
		n    int
		want api.Real
	}{
		{from(-1, 2), 0, from(1, 1)}, {from(0, 0), 0, from(1, 1)}, {from(-1, 2), -5, from(1, 1)}, {from(-1, 2), math.MinInt, from(1, 1)},
		{from(-1, 2), 1, from(-1, 2)}, {from(2, -1), 1, from(-1, 2)}, {from(-1, 2), 2, from(0, 4)}, {from(-3, 2), 3, from(-27, 8)}, {from(-3, 2), 4, from(0, 81)}, {from(2, -3), 4, from(0, 81)},
		{from(-3, -2), 3, from(-27, -8)}, {from(-3, -2), 4, from(16, 81)}, {from(2, 3), 4, from(16, 81)}, {from(0, 2), 5, from(0, 32)}, {from(-2, 0), 5, from(-32, 0)}, {from(-2, 0), 6, from(0, 64)},
		// 65 counts as 64, which is even.
		{from(-1, 1), 63, from(-1, 1)}, {from(-1, 1), 64, from(0, 1)}, {from(-1, 1), 65, from(0, 1)}, {from(-1, 1), math.MaxInt, from(0, 1)}, {from(-1, 0), 65, from(0, 1)},
	} {
		want(t, real.Pow(c.x, c.n), meant(c.want), "Pow", c.x, c.n)
	}
}

func TestPow(t *testing.T) { // P7.1
	i := 0
	singles(func(x api.Real) {
		i++
		for _, n := range []int{2, 3, exponents[i%len(exponents)]} {
			want(t, real.Pow(x, n), under(power(min(max(n, 0), api.MaxPow)), meant(x)), "Pow", x, n)
		}
	})
	for _, x := range few() {
		for _, n := range exponents {
			want(t, real.Pow(x, n), under(power(min(max(n, 0), api.MaxPow)), meant(x)), "Pow", x, n)
		}
	}
}

// TestInvWritten has what is wanted in parts of a whole.
func TestInvWritten(t *testing.T) { // P7.2
	for _, c := range []struct {
		x      api.Real
		p      int
		lo, hi int64
		parts  int
	}{
		{from(3, 3), 2, 2, 3, 3}, {from(-3, -3), 2, -3, -2, 3}, {from(2, 3), 2, 2, 4, 3}, {from(3, 2), 2, 2, 4, 3}, {from(-3, -2), 2, -4, -2, 3}, {from(-2, -3), 2, -4, -2, 3},
		{from(1, 8), 1, 1, 8, 3}, {from(1, 8), math.MaxInt, 1, 8, 3}, {from(3, 5), 1, 1, 4, 3}, {from(3, 5), 0, 1, 4, 3}, {from(3, 5), math.MinInt, 1, 4, 3}, {from(-1, -1), 9, -1, -1, 0},
	} {
		got, e := real.Inv(c.x, c.p)
		if e != api.OK {
			t.Fatal(call("Inv", c.x, c.p), e)
		}
		want(t, got, meant(api.Real{Lo: small(c.lo, -c.parts), Hi: small(c.hi, -c.parts)}), "Inv", c.x, c.p)
	}
}

// inverts holds Inv against quot's Div of the ends.
func inverts(t *testing.T, x api.Real, p int) {
	t.Helper()
	got, e := real.Inv(x, p)
	s := meant(x)
	if s.has(whole(0)) {
		refused(t, got, e, api.ErrZero, "Inv", x, p)
		return
	}
	lo, _ := quot.Div(small(1, 0), dyadOf(s.hi), p, api.Down)
	hi, _ := quot.Div(small(1, 0), dyadOf(s.lo), p, api.Up)
	want(t, got, span{value(lo), value(hi)}, "Inv", x, p)
	if e != api.OK {
		t.Fatal(call("Inv", x, p), e)
	}
}

func TestInv(t *testing.T) { // P7.2
	i := 0
	singles(func(x api.Real) {
		i++
		inverts(t, x, precisions[i%len(precisions)])
		inverts(t, x, i%70)
	})
}

// TestDivWritten has what is wanted in parts of a whole.
func TestDivWritten(t *testing.T) { // P7.2
	for _, c := range []struct {
		x, y   api.Real
		p      int
		lo, hi int64
		parts  int
	}{
		{from(1, 1), from(3, 3), 2, 2, 3, 3}, {from(6, 6), from(2, 2), 2, 3, 3, 0}, {from(6, 6), from(-2, -2), 2, -3, -3, 0}, {from(-4, 6), from(2, 4), 5, -2, 3, 0}, {from(6, -4), from(4, 2), 5, -2, 3, 0},
		// Not as near as could be: a third, and what that is times three, are rounded each.
		{from(3, 3), from(3, 3), 2, 6, 12, 3}, {from(3, 3), from(3, 3), 1, 4, 16, 3}, {from(5, 5), from(5, 5), 2, 6, 12, 3}, {from(0, 0), from(3, 5), 7, 0, 0, 0}, {from(-3, 3), from(-3, -3), 2, -12, 12, 3},
	} {
		got, e := real.Div(c.x, c.y, c.p)
		if e != api.OK {
			t.Fatal(call("Div", c.x, c.y, c.p), e)
		}
		want(t, got, meant(api.Real{Lo: small(c.lo, -c.parts), Hi: small(c.hi, -c.parts)}), "Div", c.x, c.y, c.p)
	}
}

// divides holds Div against Inv, the products of the ends and Round.
func divides(t *testing.T, x, y api.Real, p int) {
	t.Helper()
	got, e := real.Div(x, y, p)
	inverse, f := real.Inv(y, p)
	if f != api.OK {
		refused(t, got, e, api.ErrZero, "Div", x, y, p)
		return
	}
	if e != api.OK {
		t.Fatal(call("Div", x, y, p), e)
	}
	rounded := real.Round(realOf(among(product, meant(x), meant(inverse))), p)
	want(t, got, meant(rounded), "Div", x, y, p)
}

func TestDiv(t *testing.T) { // P7.2
	i := 0
	pairs(func(x, y api.Real) {
		i++
		divides(t, x, y, precisions[i%len(precisions)])
		divides(t, x, y, i%70)
	})
}

func TestErrors(t *testing.T) { // P7.2: where there is 0, within and at either end
	for _, y := range []api.Real{{}, from(0, 0), from(0, 1), from(1, 0), from(-1, 0), from(0, -1), from(-1, 1), from(1, -1), from(-5, 9),
		{Lo: api.Dyad{M: api.Int{Neg: true, Mag: []uint32{0, 0}}, E: -7}, Hi: small(1, -api.MaxE)}, {Lo: small(-1, -api.MaxE), Hi: small(1, -api.MaxE)}, {Lo: small(-1, far), Hi: api.Dyad{E: far}}} {
		for _, p := range precisions {
			got, e := real.Inv(y, p)
			refused(t, got, e, api.ErrZero, "Inv", y, p)
			for _, x := range []api.Real{{}, from(1, 2), from(-1, 1), y} {
				got, e := real.Div(x, y, p)
				refused(t, got, e, api.ErrZero, "Div", x, y, p)
			}
		}
	}
}
