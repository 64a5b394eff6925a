package rect_test

import (
	"math/rand"
	"testing"

	"annulus/api"
	"annulus/rect"
	"annulus/round"
)

func TestIs(t *testing.T) { // P9.1
	for _, c := range []struct {
		x  api.Rect
		is bool
	}{
		{api.Rect{}, true}, {from4(1, 2, 3, 4), true}, {from4(2, 1, 3, 4), false}, {from4(1, 2, 4, 3), false}, {from4(2, 1, 4, 3), false},
		{from4(2, 2, 3, 3), true}, {from4(-1, -2, 3, 3), false}, {from4(-2, -1, 0, 0), true}, {from4(0, 0, 0, -1), false},
		// However ends are written.
		{api.Rect{Re: api.Real{Lo: api.Dyad{M: api.Int{Mag: []uint32{12, 0}}}, Hi: small(3, 2)}, Im: api.Real{Lo: api.Dyad{E: 9}}}, true},
	} {
		asked(t, rect.Is(c.x), c.is, "Is", c.x)
	}
	singles(func(x api.Rect) {
		is := order(value(x.Re.Lo), value(x.Re.Hi)) <= 0 && order(value(x.Im.Lo), value(x.Im.Hi)) <= 0
		asked(t, rect.Is(x), is, "Is", x)
	})
}

func TestOf(t *testing.T) { // P9.1
	want(t, rect.Of(at(3, -4)), alone(3, -4), "Of", at(3, -4))
	want(t, rect.Of(api.Cplx{}), alone(0, 0), "Of", 0)
	singles(func(x api.Rect) {
		c := api.Cplx{Re: x.Re.Lo, Im: x.Im.Hi}
		p := spot(c)
		got := rect.Of(c)
		want(t, got, area{span{p.re, p.re}, span{p.im, p.im}}, "Of", c)
		asked(t, rect.Is(got) && rect.Has(got, c), true, "Of", c)
	})
}

func TestHas(t *testing.T) { // P9.1
	for re := int64(-1); re < 6; re++ {
		for im := int64(-7); im < 2; im++ {
			for _, x := range turned(from4(1, 3, -5, -1)) {
				asked(t, rect.Has(x, at(re, im)), re >= 1 && re <= 3 && im >= -5 && im <= -1, "Has", x, at(re, im))
			}
		}
	}
	r := rand.New(rand.NewSource(93))
	little := value(small(1, -3*api.MaxE))
	singles(func(x api.Rect) {
		a := meant(x)
		for _, c := range inside(x, 1+r.Intn(7)) {
			asked(t, rect.Has(x, otherPoint(r, c)), true, "Has", x, cplxOf(c))
		}
		for _, c := range []point{{difference(a.re.lo, little), a.im.lo}, {sum(a.re.hi, little), a.im.lo}, {a.re.lo, difference(a.im.lo, little)}, {a.re.hi, sum(a.im.hi, little)}} {
			asked(t, rect.Has(x, otherPoint(r, c)), false, "Has", x, cplxOf(c))
		}
		c := api.Cplx{Re: some(r, 3, 100), Im: some(r, 3, 100)}
		asked(t, rect.Has(x, c), a.has(spot(c)), "Has", x, c)
	})
}

func TestIn(t *testing.T) { // P9.1
	for _, c := range []struct {
		x  api.Rect
		in bool
	}{
		{from4(1, 5, -5, -1), true}, {from4(2, 3, -4, -2), true}, {from4(3, 3, -5, -5), true}, {from4(1, 6, -4, -2), false}, {from4(0, 5, -4, -2), false},
		{from4(2, 3, -6, -2), false}, {from4(2, 3, -4, 0), false}, {from4(0, 6, -6, 0), false}, {from4(7, 8, -4, -2), false}, {from4(2, 3, 2, 3), false},
	} {
		for _, x := range turned(c.x) {
			for _, y := range turned(from4(1, 5, -5, -1)) {
				asked(t, rect.In(x, y), c.in, "In", x, y)
			}
		}
	}
	pairs(func(x, y api.Rect) {
		asked(t, rect.In(x, y), meant(x).within(meant(y)), "In", x, y)
		asked(t, rect.In(x, x), true, "In", x, x)
	})
}

func TestSame(t *testing.T) { // P9.1
	r := rand.New(rand.NewSource(94))
	pairs(func(x, y api.Rect) {
		a, b := meant(x), meant(y)
		asked(t, rect.Same(x, y), a.within(b) && b.within(a), "Same", x, y)
		way := api.Rect{Re: api.Real{Lo: otherWay(r, a.re.hi), Hi: otherWay(r, a.re.lo)}, Im: api.Real{Lo: otherWay(r, a.im.lo), Hi: otherWay(r, a.im.hi)}}
		asked(t, rect.Same(x, way), true, "Same", x, way)
		asked(t, rect.Same(way, x), true, "Same", way, x)
	})
	for _, y := range []api.Rect{from4(0, 2, 3, 4), from4(1, 3, 3, 4), from4(1, 2, 2, 4), from4(1, 2, 3, 5), from4(3, 4, 1, 2), from4(-1, -2, 3, 4), {}} {
		asked(t, rect.Same(from4(1, 2, 3, 4), y), false, "Same", y)
		asked(t, rect.Same(y, from4(2, 1, 4, 3)), false, "Same", y)
	}
}

func TestHull(t *testing.T) { // P9.1
	for _, x := range turned(from4(1, 2, -4, -3)) {
		for _, y := range turned(from4(5, 7, -9, -8)) {
			want(t, rect.Hull(x, y), meant(from4(1, 7, -9, -3)), "Hull", x, y)
			want(t, rect.Hull(y, x), meant(from4(1, 7, -9, -3)), "Hull", y, x)
		}
	}
	pairs(func(x, y api.Rect) {
		got := rect.Hull(x, y)
		want(t, got, meant(x).around(meant(y)), "Hull", x, y)
		asked(t, rect.In(x, got) && rect.In(y, got), true, "Hull", x, y)
	})
}

// meets holds Meet against what the ends tell, and tells whether there is one.
func meets(t *testing.T, x, y api.Rect) bool {
	t.Helper()
	a, b := meant(x), meant(y)
	re := span{around(a.re.lo, b.re.lo).hi, around(a.re.hi, b.re.hi).lo}
	im := span{around(a.im.lo, b.im.lo).hi, around(a.im.hi, b.im.hi).lo}
	got, ok := rect.Meet(x, y)
	if order(re.lo, re.hi) > 0 || order(im.lo, im.hi) > 0 {
		asked(t, ok || !alike(got, api.Rect{}), false, "Meet", x, y)
		return false
	}
	asked(t, ok, true, "Meet", x, y)
	want(t, got, area{re, im}, "Meet", x, y)
	asked(t, rect.In(got, x) && rect.In(got, y), true, "Meet", x, y)
	return true
}

func TestMeet(t *testing.T) { // P9.1
	for _, c := range []struct {
		x, both api.Rect
		ok      bool
	}{
		{from4(2, 9, -3, 4), from4(2, 5, -3, -1), true}, {from4(2, 3, -3, -2), from4(2, 3, -3, -2), true}, {from4(0, 9, -9, 0), from4(1, 5, -5, -1), true},
		// One corner, one side.
		{from4(5, 9, -1, 4), from4(5, 5, -1, -1), true}, {from4(5, 9, -9, 9), from4(5, 5, -5, -1), true},
		// Only one part tells so, the other one does.
		{from4(6, 9, -3, -2), api.Rect{}, false}, {from4(2, 3, 0, 1), api.Rect{}, false}, {from4(6, 9, 0, 1), api.Rect{}, false}, {from4(-1, 0, -9, 9), api.Rect{}, false},
	} {
		for _, x := range turned(c.x) {
			for _, y := range turned(from4(1, 5, -5, -1)) {
				for _, z := range [2][2]api.Rect{{x, y}, {y, x}} {
					got, ok := rect.Meet(z[0], z[1])
					asked(t, ok, c.ok, "Meet", z[0], z[1])
					want(t, got, meant(c.both), "Meet", z[0], z[1])
				}
			}
		}
	}
	met, all := 0, 0
	pairs(func(x, y api.Rect) {
		all++
		if meets(t, x, y) {
			met++
		}
	})
	asked(t, met > all/10 && met < all-all/10, true, "Meet: of both kinds", met, all)
}

func TestRound(t *testing.T) { // P9.1
	for _, c := range []struct {
		x    api.Rect
		p    int
		want api.Rect
	}{
		{from4(5, 5, -5, -5), 2, from4(4, 6, -6, -4)}, {from4(5, -5, 9, 5), 2, from4(-6, 6, 4, 12)}, {from4(5, 9, 0, 5), 1, from4(4, 16, 0, 8)},
		{from4(5, 9, 0, 5), 0, from4(4, 16, 0, 8)}, {from4(5, 9, 0, 5), -7, from4(4, 16, 0, 8)}, {from4(5, 9, -7, 5), 4, from4(5, 9, -7, 5)}, {from4(5, 9, -7, 5), 1 << 40, from4(5, 9, -7, 5)},
	} {
		want(t, rect.Round(c.x, c.p), meant(c.want), "Round", c.x, c.p)
	}
	rounded := func(s span, p int) span {
		return span{value(round.To(dyadOf(s.lo), p, api.Down)), value(round.To(dyadOf(s.hi), p, api.Up))}
	}
	i := 0
	singles(func(x api.Rect) {
		i++
		p := precisions[i%len(precisions)]
		got := rect.Round(x, p)
		want(t, got, area{rounded(meant(x).re, p), rounded(meant(x).im, p)}, "Round", x, p)
		asked(t, rect.Is(got) && rect.In(x, got), true, "Round", x, p)
	})
}

func TestMiddle(t *testing.T) { // P9.1
	for _, c := range []struct {
		x    api.Rect
		want api.Cplx
	}{
		{from4(1, 5, -4, 0), at(3, -2)}, {from4(3, 3, 7, 7), at(3, 7)}, {from4(-1, 1, 0, 0), at(0, 0)}, {from4(0, 1, -1, 0), api.Cplx{Re: small(1, -1), Im: small(-1, -1)}},
	} {
		for _, x := range turned(c.x) {
			got := rect.Middle(x)
			want(t, rect.Of(got), meant(rect.Of(c.want)), "Middle", x)
		}
	}
	singles(func(x api.Rect) {
		a := meant(x)
		got := rect.Middle(x)
		w := point{moved(sum(a.re.lo, a.re.hi), -1), moved(sum(a.im.lo, a.im.hi), -1)}
		asked(t, equal(got.Re, dyadOf(w.re)) && equal(got.Im, dyadOf(w.im)), true, "Middle", x, got)
		asked(t, rect.Has(x, got), true, "Has its Middle", x, got)
	})
}
