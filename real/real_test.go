package real_test

import (
	"math/rand"
	"testing"

	"annulus/api"
	"annulus/real"
	"annulus/round"
)

func TestIs(t *testing.T) { // P7.1
	for _, c := range []struct {
		x  api.Real
		is bool
	}{
		{api.Real{}, true}, {from(0, 0), true}, {from(1, 2), true}, {from(2, 2), true}, {from(2, 1), false},
		{from(-2, -1), true}, {from(-1, -2), false}, {from(-1, 1), true}, {from(1, -1), false}, {from(0, -1), false}, {from(0, 1), true},
		{api.Real{Lo: small(1, -api.MaxE), Hi: small(1, api.MaxE)}, true},
		{api.Real{Lo: small(-1, -api.MaxE), Hi: small(-1, api.MaxE)}, false},
		// However ends are written.
		{api.Real{Lo: api.Dyad{M: api.Int{Mag: []uint32{12, 0}}}, Hi: small(3, 2)}, true},
		{api.Real{Lo: small(3, 2), Hi: api.Dyad{M: api.Int{Mag: []uint32{12, 0}}}}, true},
		{api.Real{Lo: api.Dyad{E: 9}, Hi: api.Dyad{M: api.Int{Neg: true, Mag: []uint32{0}}}}, true},
	} {
		asked(t, real.Is(c.x), c.is, "Is", c.x)
	}
	singles(func(x api.Real) {
		asked(t, real.Is(x), order(value(x.Lo), value(x.Hi)) <= 0, "Is", x)
	})
}

func TestOf(t *testing.T) { // P7.1
	for _, d := range edges() {
		want(t, real.Of(d), span{value(d), value(d)}, "Of", d)
	}
	singles(func(x api.Real) {
		got := real.Of(x.Lo)
		want(t, got, span{value(x.Lo), value(x.Lo)}, "Of", x.Lo)
		asked(t, real.Is(got), true, "Is", got)
		asked(t, real.Has(got, x.Lo), true, "Has", got, x.Lo)
	})
}

func TestHas(t *testing.T) { // P7.1
	for _, c := range []struct {
		lo, hi, d int64
		has       bool
	}{
		{1, 3, 0, false}, {1, 3, 1, true}, {1, 3, 2, true}, {1, 3, 3, true}, {1, 3, 4, false}, {1, 3, -2, false},
		{3, 1, 0, false}, {3, 1, 1, true}, {3, 1, 2, true}, {3, 1, 3, true}, {3, 1, 4, false},
		{-3, -1, -2, true}, {-3, -1, 0, false}, {-1, 1, 0, true}, {1, -1, 0, true}, {2, 2, 2, true}, {2, 2, 1, false}, {2, 2, 3, false}, {0, 0, 0, true},
	} {
		asked(t, real.Has(from(c.lo, c.hi), small(c.d, 0)), c.has, "Has", from(c.lo, c.hi), c.d)
	}
	r := rand.New(rand.NewSource(73))
	little := value(small(1, -3*api.MaxE))
	singles(func(x api.Real) {
		s := meant(x)
		for _, n := range inside(x, 1+r.Intn(7)) {
			asked(t, real.Has(x, otherWay(r, n)), true, "Has", x, dyadOf(n))
		}
		for _, n := range []number{difference(s.lo, little), sum(s.hi, little)} {
			asked(t, real.Has(x, otherWay(r, n)), false, "Has", x, dyadOf(n))
		}
		d := some(r, 3, 100)
		asked(t, real.Has(x, d), s.has(value(d)), "Has", x, d)
	})
}

func TestIn(t *testing.T) { // P7.1
	for _, c := range []struct {
		x, y api.Real
		in   bool
	}{
		{from(1, 2), from(1, 2), true}, {from(1, 2), from(0, 3), true}, {from(0, 3), from(1, 2), false}, {from(1, 2), from(1, 3), true}, {from(1, 2), from(0, 2), true},
		{from(1, 3), from(1, 2), false}, {from(0, 2), from(1, 2), false}, {from(1, 2), from(3, 4), false}, {from(3, 4), from(1, 2), false}, {from(1, 3), from(2, 4), false}, {from(2, 4), from(1, 3), false},
		{from(2, 1), from(0, 3), true}, {from(1, 2), from(3, 0), true}, {from(2, 1), from(3, 0), true}, {from(3, 0), from(2, 1), false}, {from(0, 0), from(1, -1), true},
	} {
		asked(t, real.In(c.x, c.y), c.in, "In", c.x, c.y)
	}
	pairs(func(x, y api.Real) {
		s, u := meant(x), meant(y)
		asked(t, real.In(x, y), u.has(s.lo) && u.has(s.hi), "In", x, y)
		asked(t, real.In(x, x), true, "In", x, x)
		asked(t, real.In(x, changed(x)), true, "In", x, changed(x))
	})
}

func TestSame(t *testing.T) { // P7.1
	r := rand.New(rand.NewSource(74))
	pairs(func(x, y api.Real) {
		s, u := meant(x), meant(y)
		asked(t, real.Same(x, y), order(s.lo, u.lo) == 0 && order(s.hi, u.hi) == 0, "Same", x, y)
		way := api.Real{Lo: otherWay(r, s.hi), Hi: otherWay(r, s.lo)}
		asked(t, real.Same(x, way), true, "Same", x, way)
		asked(t, real.Same(way, x), true, "Same", way, x)
	})
	for _, y := range []api.Real{from(1, 3), from(0, 2), from(2, 2), from(1, 1), from(-2, -1), from(-1, 2)} {
		asked(t, real.Same(from(1, 2), y), false, "Same", from(1, 2), y)
		asked(t, real.Same(y, from(2, 1)), false, "Same", y, from(2, 1))
	}
}

func TestHull(t *testing.T) { // P7.1
	for _, c := range [][3]api.Real{
		{from(1, 2), from(4, 5), from(1, 5)}, {from(4, 5), from(1, 2), from(1, 5)}, {from(2, 1), from(5, 4), from(1, 5)},
		{from(1, 4), from(2, 5), from(1, 5)}, {from(1, 5), from(2, 3), from(1, 5)}, {from(-1, -1), from(0, 0), from(-1, 0)}, {from(3, 3), from(3, 3), from(3, 3)},
	} {
		want(t, real.Hull(c[0], c[1]), meant(c[2]), "Hull", c[0], c[1])
	}
	pairs(func(x, y api.Real) {
		s, u := meant(x), meant(y)
		got := real.Hull(x, y)
		want(t, got, around(s.lo, s.hi, u.lo, u.hi), "Hull", x, y)
		asked(t, real.In(x, got) && real.In(y, got), true, "In", x, y, got)
	})
}

// meets holds Meet against what the ends tell.
func meets(t *testing.T, x, y api.Real) {
	t.Helper()
	s, u := meant(x), meant(y)
	lo, hi := around(s.lo, u.lo).hi, around(s.hi, u.hi).lo
	got, ok := real.Meet(x, y)
	if order(lo, hi) > 0 {
		asked(t, ok || !alike(got, api.Real{}), false, "Meet", x, y)
		return
	}
	asked(t, ok, true, "Meet", x, y)
	want(t, got, span{lo, hi}, "Meet", x, y)
	asked(t, real.In(got, x) && real.In(got, y), true, "In", got, x, y)
}

func TestMeet(t *testing.T) { // P7.1
	for _, c := range []struct {
		x, y, both api.Real
		ok         bool
	}{
		{from(1, 3), from(2, 5), from(2, 3), true}, {from(2, 5), from(1, 3), from(2, 3), true}, {from(3, 1), from(5, 2), from(2, 3), true}, {from(1, 5), from(2, 3), from(2, 3), true}, {from(2, 3), from(1, 5), from(2, 3), true},
		// One number, which lies at both their ends, or is one of them.
		{from(1, 2), from(2, 3), from(2, 2), true}, {from(2, 3), from(2, 1), from(2, 2), true}, {from(-1, 1), from(0, 0), from(0, 0), true}, {from(4, 4), from(4, 4), from(4, 4), true},
		{from(1, 2), from(3, 4), api.Real{}, false}, {from(4, 3), from(2, 1), api.Real{}, false}, {from(1, 1), from(2, 2), api.Real{}, false}, {from(-2, -1), from(1, 2), api.Real{}, false},
	} {
		got, ok := real.Meet(c.x, c.y)
		asked(t, ok, c.ok, "Meet", c.x, c.y)
		want(t, got, meant(c.both), "Meet", c.x, c.y)
	}
	pairs(func(x, y api.Real) { meets(t, x, y) })
}

func TestRound(t *testing.T) { // P7.1
	for _, c := range []struct {
		x    api.Real
		p    int
		want api.Real
	}{
		{from(5, 5), 2, from(4, 6)}, {from(-5, -5), 2, from(-6, -4)}, {from(-5, 5), 2, from(-6, 6)}, {from(5, -5), 2, from(-6, 6)}, {from(5, 9), 1, from(4, 16)}, {from(9, 5), 1, from(4, 16)},
		{from(5, 9), 0, from(4, 16)}, {from(5, 9), -7, from(4, 16)}, {from(5, 9), 4, from(5, 9)}, {from(5, 9), 1 << 40, from(5, 9)}, {from(0, 5), 2, from(0, 6)}, {from(-5, 0), 2, from(-6, 0)}, {from(0, 0), 1, from(0, 0)},
	} {
		want(t, real.Round(c.x, c.p), meant(c.want), "Round", c.x, c.p)
	}
	i := 0
	singles(func(x api.Real) {
		i++
		p := precisions[i%len(precisions)]
		s := meant(x)
		lo, hi := round.To(dyadOf(s.lo), p, api.Down), round.To(dyadOf(s.hi), p, api.Up)
		got := real.Round(x, p)
		want(t, got, span{value(lo), value(hi)}, "Round", x, p)
		asked(t, real.Is(got) && real.In(x, got), true, "In", x, got)
	})
}
