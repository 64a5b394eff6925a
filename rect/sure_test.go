package rect_test

import (
	"math"
	"testing"

	"annulus/api"
	"annulus/rect"
)

// ratio tells whether a by b, which isn't 0, lies in x.
func ratio(x api.Rect, a, b point) bool {
	quotient := a.times(point{b.re, other(b.im)}) // times the Norm of b
	norm, in := b.norm(), meant(x)
	re, im := span{product(in.re.lo, norm), product(in.re.hi, norm)}, span{product(in.im.lo, norm), product(in.im.hi, norm)}
	return area{re, im}.has(quotient)
}

// inOne sees that each call of x has what it is to have of points of x.
func inOne(t *testing.T, x api.Rect, p, n, eighths int) {
	t.Helper()
	inverse, e := rect.Inv(x, p)
	norm := numbers(rect.Norm(x))
	opposite, square, power, rounded := meant(rect.Neg(x)), meant(rect.Square(x)), meant(rect.Pow(x, n)), meant(rect.Round(x, p))
	for _, a := range inside(x, eighths) {
		have := call("where it has", cplxOf(a))
		asked(t, opposite.has(a.mirrored()), true, "Neg", x, have)
		asked(t, square.has(a.times(a)), true, "Square", x, have)
		asked(t, norm.has(a.norm()), true, "Norm", x, have)
		asked(t, rounded.has(a), true, "Round", x, p, have)
		of := spot(at(1, 0))
		for range n {
			of = of.times(a)
		}
		asked(t, power.has(of), true, "Pow", x, n, have)
		asked(t, e != api.OK || ratio(inverse, spot(at(1, 0)), a), true, "Inv", x, p, have)
	}
}

func TestWhatIsInOne(t *testing.T) { // P9.3
	i := 0
	singles(func(x api.Rect) {
		i++
		inOne(t, x, i%40, i%6, 1+i%7)
	})
	for i, x := range few() {
		if i%50 == 9 {
			for n := range api.MaxPow + 1 {
				inOne(t, x, i, n, 1+n%7)
			}
		}
	}
}

func TestWhatIsInTwo(t *testing.T) { // P9.3
	i := 0
	pairs(func(x, y api.Rect) {
		i++
		p := i % 40
		quotient, e := rect.Div(x, y, p)
		sums, less, products, hull := meant(rect.Add(x, y)), meant(rect.Sub(x, y)), meant(rect.Mul(x, y)), meant(rect.Hull(x, y))
		corners := inside(y, 1+i%7)
		for j, a := range inside(x, 1+i%7) {
			for k, b := range corners {
				if (j+k+i)%9 > 0 {
					continue
				}
				have := call("where they have", cplxOf(a), cplxOf(b))
				asked(t, sums.has(a.plus(b)), true, "Add", x, y, have)
				asked(t, less.has(a.plus(b.mirrored())), true, "Sub", x, y, have)
				asked(t, products.has(a.times(b)), true, "Mul", x, y, have)
				asked(t, hull.has(a) && hull.has(b), true, "Hull", x, y, have)
				asked(t, e != api.OK || ratio(quotient, a, b), true, "Div", x, y, p, have)
			}
		}
	})
}

// answers: all that the calls answer to x and y that are Rects; points and Norm
// as such.
func answers(x, y api.Rect, p int) []api.Rect {
	inverse, _ := rect.Inv(y, p)
	quotient, _ := rect.Div(x, y, p)
	both, _ := rect.Meet(x, y)
	middle := rect.Middle(x)
	return []api.Rect{rect.Add(x, y), rect.Sub(x, y), rect.Mul(x, y), rect.Neg(x), rect.Square(x), rect.Pow(x, 0), rect.Pow(x, 1), rect.Pow(x, 2), rect.Pow(x, 3),
		{Re: rect.Norm(x)}, inverse, quotient, rect.Hull(x, y), both, rect.Round(x, p), {Re: api.Real{Lo: middle.Re, Hi: middle.Im}}}
}

// told: what else they answer.
func told(x, y api.Rect, p int) [5]any {
	_, e := rect.Inv(y, p)
	_, f := rect.Div(x, y, p)
	_, ok := rect.Meet(x, y)
	return [5]any{rect.In(x, y), rect.Same(x, y), ok, e, f}
}

// TestOtherWays sees that the calls answer alike, however numbers are written.
func TestOtherWays(t *testing.T) { // P9.1, P9.2
	i := 0
	pairs(func(x, y api.Rect) {
		i++
		if i%40 > 0 {
			return
		}
		wantedRects, wanted := answers(x, y, i%70), told(x, y, i%70)
		a, b, c, d := ways(x.Re.Lo), ways(x.Re.Hi), ways(x.Im.Lo), ways(x.Im.Hi)
		for j := range a {
			v := api.Rect{Re: api.Real{Lo: a[j], Hi: b[(i+j)%len(b)]}, Im: api.Real{Lo: c[(i+2*j)%len(c)], Hi: d[(i+3*j)%len(d)]}}
			for k, got := range answers(v, y, i%70) {
				asked(t, alike(got, wantedRects[k]), true, "answer", k, v, y)
			}
			asked(t, told(v, y, i%70) == wanted, true, "told", v, y)
			theirs := told(y, v, i%70) == told(y, x, i%70)
			for k, got := range answers(y, v, i%70) {
				theirs = theirs && alike(got, answers(y, x, i%70)[k])
			}
			asked(t, theirs, true, "told or answered", y, v)
			corner := api.Cplx{Re: v.Re.Hi, Im: v.Im.Lo}
			asked(t, rect.Is(v) == rect.Is(x) && rect.Has(x, corner) && rect.Has(v, corner), true, "Is, Has", v, x)
			asked(t, alike(rect.Of(corner), rect.Of(api.Cplx{Re: x.Re.Hi, Im: x.Im.Lo})), true, "Of", v, x)
		}
	})
}

// TestChanged sees that the calls ask the one with both ends changed, of what
// isn't one.
func TestChanged(t *testing.T) { // P9.1, P9.2
	i := 0
	pairs(func(x, y api.Rect) {
		i++
		if i%4 > 0 {
			return
		}
		x, y = rectOf(meant(x)), rectOf(meant(y))
		wantedRects, wanted := answers(x, y, i%70), told(x, y, i%70)
		for j, v := range turned(x) {
			w := turned(y)[(i/4+j)%4]
			for k, got := range answers(v, w, i%70) {
				asked(t, alike(got, wantedRects[k]), true, "answer", k, v, w)
			}
			asked(t, told(v, w, i%70) == wanted, true, "told", v, w)
			for _, c := range [2]api.Cplx{rect.Middle(y), {Re: x.Re.Hi, Im: x.Im.Lo}} {
				asked(t, rect.Has(v, c) == rect.Has(x, c), true, "Has", v, c)
			}
		}
	})
}

// TestFar has the farthest exponents of which something is promised.
func TestFar(t *testing.T) { // P9.1, P9.2
	wide, tiny := api.Real{Lo: small(-3, far), Hi: small(5, far)}, api.Real{Lo: small(7, -far), Hi: small(-3, -far)}
	for _, x := range []api.Rect{{Re: wide, Im: tiny}, {Re: tiny, Im: wide}, {Re: tiny, Im: tiny}, {Re: from(1, 2), Im: api.Real{Lo: small(1, -far), Hi: small(9, far)}}} {
		a := meant(x)
		for _, y := range []api.Rect{x, from4(-7, 5, 2, 1), {Re: tiny, Im: from(3, 4)}} {
			b := meant(y)
			want(t, rect.Add(x, y), a.plus(b), "Add", x, y)
			want(t, rect.Sub(x, y), a.less(b), "Sub", x, y)
			want(t, rect.Mul(x, y), a.times(b), "Mul", x, y)
			want(t, rect.Hull(x, y), a.around(b), "Hull", x, y)
			meets(t, x, y)
			divides(t, x, y, 5)
			asked(t, rect.In(x, y), a.within(b), "In", x, y)
		}
		want(t, rect.Square(x), a.squared(), "Square", x)
		wantReal(t, rect.Norm(x), a.norm(), "Norm", x)
		powers(t, x, 2)
		inverts(t, x, 9)
	}
}

// TestBeyond sees that all calls come back, however far an exponent lies.
func TestBeyond(t *testing.T) { // P9.1, P9.2
	outer := []int{far + 1, -far - 1, 1 << 31, math.MaxInt, math.MinInt}
	for i, e := range outer {
		for _, m := range []int64{0, 1, -12} {
			d := api.Dyad{M: small(m, 0).M, E: e}
			wide := api.Real{Lo: d, Hi: api.Dyad{M: small(7, 0).M, E: outer[(i+3)%len(outer)]}}
			for _, x := range []api.Rect{{Re: api.Real{Lo: d, Hi: d}, Im: from(2, 3)}, {Re: from(-2, 3), Im: api.Real{Lo: d, Hi: small(3, 0)}}, {Re: wide, Im: wide}} {
				answers(x, from4(2, 3, -1, 1), 1)
				answers(from4(2, 3, -1, 1), x, 40)
				told(x, x, 1)
				asked(t, rect.In(x, rect.Hull(x, from4(2, 3, 4, 5))), true, "In its Hull", x)
			}
			rect.Pow(api.Rect{Re: api.Real{Lo: d, Hi: d}, Im: api.Real{Lo: d, Hi: d}}, math.MaxInt)
		}
	}
}
