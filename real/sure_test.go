package real_test

import (
	"math"
	"testing"

	"annulus/api"
	"annulus/real"
)

// ratio tells whether a by b, which isn't 0, lies in x.
func ratio(x api.Real, a, b number) bool {
	lo, hi := product(value(x.Lo), b), product(value(x.Hi), b)
	return around(lo, hi).has(a)
}

// inOne sees that each call of x has what it is to have of numbers of x.
func inOne(t *testing.T, x api.Real, p, n, eighths int) {
	t.Helper()
	inverse, e := real.Inv(x, p)
	for _, a := range inside(x, eighths) {
		for _, c := range []struct {
			name string
			got  api.Real
			of   number
		}{
			{"Neg", real.Neg(x), other(a)}, {"Square", real.Square(x), square(a)}, {"Abs", real.Abs(x), away(a)},
			{"Round", real.Round(x, p), a}, {"Pow", real.Pow(x, n), power(n)(a)},
		} {
			asked(t, meant(c.got).has(c.of), true, c.name, x, p, n, "where it has", dyadOf(a))
		}
		asked(t, e != api.OK || ratio(inverse, whole(1), a), true, "Inv", x, p, "where it has", dyadOf(a))
	}
}

func TestWhatIsInOne(t *testing.T) { // P7.3
	i := 0
	singles(func(x api.Real) {
		i++
		inOne(t, x, i%40, i%6, 1+i%7)
	})
	for i, x := range few() {
		for n := range 65 {
			inOne(t, x, i, n, 1+n%7)
		}
	}
}

func TestWhatIsInTwo(t *testing.T) { // P7.3
	i := 0
	pairs(func(x, y api.Real) {
		i++
		p := i % 40
		quotient, e := real.Div(x, y, p)
		sums, less, products, both := meant(real.Add(x, y)), meant(real.Sub(x, y)), meant(real.Mul(x, y)), meant(real.Hull(x, y))
		for _, a := range inside(x, 1+i%7) {
			for _, b := range inside(y, 1+i%3) {
				have := "where they have " + shown(dyadOf(a)) + " and " + shown(dyadOf(b))
				asked(t, sums.has(sum(a, b)), true, "Add", x, y, have)
				asked(t, less.has(difference(a, b)), true, "Sub", x, y, have)
				asked(t, products.has(product(a, b)), true, "Mul", x, y, have)
				asked(t, both.has(a) && both.has(b), true, "Hull", x, y, have)
				asked(t, e != api.OK || ratio(quotient, a, b), true, "Div", x, y, p, have)
			}
		}
	})
}

// answers: all that the calls answer to x and y that are Reals.
func answers(x, y api.Real, p int) []api.Real {
	inverse, _ := real.Inv(y, p)
	quotient, _ := real.Div(x, y, p)
	both, _ := real.Meet(x, y)
	return []api.Real{real.Of(x.Lo), real.Add(x, y), real.Sub(x, y), real.Mul(x, y), real.Neg(x), real.Square(x), real.Pow(x, 0), real.Pow(x, 1), real.Pow(x, 2), real.Pow(x, 3),
		real.Abs(x), inverse, quotient, real.Hull(x, y), both, real.Round(x, p)}
}

// told: what else they answer.
func told(x, y api.Real, p int) [6]any {
	_, e := real.Inv(y, p)
	_, f := real.Div(x, y, p)
	_, ok := real.Meet(x, y)
	return [6]any{real.Has(x, y.Hi), real.In(x, y), real.Same(x, y), ok, e, f}
}

// TestOtherWays sees that the calls answer alike, however numbers are written.
func TestOtherWays(t *testing.T) { // P7.1, P7.2
	i := 0
	pairs(func(x, y api.Real) {
		i++
		if i%40 > 0 {
			return
		}
		wantedReals, wanted := answers(x, y, i%70), told(x, y, i%70)
		lo, hi, from, to := ways(x.Lo), ways(x.Hi), ways(y.Lo), ways(y.Hi)
		for j := range lo {
			v := api.Real{Lo: lo[j], Hi: hi[(i+j)%len(hi)]}
			w := api.Real{Lo: from[(i+2*j)%len(from)], Hi: to[(i+3*j)%len(to)]}
			for k, got := range answers(v, w, i%70) {
				asked(t, alike(got, wantedReals[k]), true, "answer", k, v, w)
			}
			asked(t, told(v, w, i%70) == wanted, true, "told", v, w)
		}
	})
}

// TestChanged sees that the calls ask the one with both ends changed, of what
// isn't one.
func TestChanged(t *testing.T) { // P7.1, P7.2
	i := 0
	pairs(func(x, y api.Real) {
		i++
		x, y = realOf(meant(x)), realOf(meant(y))
		wantedReals, wanted := answers(x, y, i%70), told(x, y, i%70)
		for j, v := range [3][2]api.Real{{changed(x), y}, {x, changed(y)}, {changed(x), changed(y)}} {
			for k, got := range answers(v[0], v[1], i%70) {
				if k > 0 { // Of takes an end
					asked(t, alike(got, wantedReals[k]), true, "answer", j, k, v[0], v[1])
				}
			}
			got := told(v[0], v[1], i%70)
			got[0] = real.Has(v[0], y.Hi)
			asked(t, got == wanted, true, "told", j, v[0], v[1])
		}
	})
}

// TestFar has the farthest exponents of which something is promised.
func TestFar(t *testing.T) { // P7.1, P7.2
	for _, x := range []api.Real{{Lo: small(-3, far), Hi: small(5, far)}, {Lo: small(5, -far), Hi: small(3, far)}, {Lo: small(-5, far), Hi: small(-3, -far)}, {Lo: small(-3, -far), Hi: small(7, -far)}} {
		for _, y := range []api.Real{x, from(-7, 5), from(7, 5), {Lo: small(1, -far), Hi: small(9, -far)}} {
			s, u := meant(x), meant(y)
			want(t, real.Add(x, y), among(sum, s, u), "Add", x, y)
			want(t, real.Sub(x, y), among(difference, s, u), "Sub", x, y)
			want(t, real.Mul(x, y), among(product, s, u), "Mul", x, y)
			want(t, real.Hull(x, y), around(s.lo, s.hi, u.lo, u.hi), "Hull", x, y)
			meets(t, x, y)
			divides(t, x, y, 5)
			asked(t, real.In(x, y), u.has(s.lo) && u.has(s.hi), "In", x, y)
		}
		want(t, real.Pow(x, 5), under(power(5), meant(x)), "Pow", x, 5)
		want(t, real.Square(x), under(square, meant(x)), "Square", x)
		inverts(t, x, 9)
	}
}

// TestBeyond sees that all calls come back, however far an exponent lies.
func TestBeyond(t *testing.T) { // P7.1, P7.2
	outer := []int{far + 1, -far - 1, 1 << 31, -1 << 31, math.MaxInt, math.MinInt, math.MaxInt - 5}
	for i, e := range outer {
		for _, m := range []int64{0, 1, -1, 12, -5} {
			d := api.Dyad{M: small(m, 0).M, E: e}
			for _, x := range []api.Real{{Lo: d, Hi: d}, {Lo: d, Hi: small(3, 0)}, {Lo: small(-3, 0), Hi: d}, {Lo: d, Hi: api.Dyad{M: small(7, 0).M, E: outer[(i+3)%len(outer)]}}} {
				for _, p := range []int{1, math.MaxInt} {
					answers(x, from(2, 3), p)
					answers(from(-2, 3), x, p)
					told(x, x, p)
				}
				real.Pow(x, math.MaxInt)
				asked(t, real.In(x, real.Hull(x, from(2, 3))), true, "In its Hull", x)
			}
		}
	}
}
