package disc_test

import (
	"math"
	"math/big"
	"math/rand"
	"testing"

	"annulus/api"
	"annulus/disc"
	"annulus/gauss"
	"annulus/quot"
	"annulus/rect"
)

func TestIs(t *testing.T) { // P10.1
	for _, c := range []struct {
		d  api.Disc
		is bool
	}{
		{api.Disc{}, true}, {disc3(1, 2, 0), true}, {disc3(1, 2, 3), true}, {disc3(-1, -2, -3), false}, {disc3(0, 0, -1), false},
		// However R is written, and however little it is.
		{api.Disc{R: api.Dyad{M: api.Int{Neg: true}, E: 7}}, true}, {api.Disc{R: api.Dyad{M: api.Int{Neg: true, Mag: []uint32{0, 0}}}}, true}, {api.Disc{R: api.Dyad{M: api.Int{Neg: true, Mag: []uint32{0, 4, 0}}}}, false},
		{api.Disc{R: small(-1, -api.MaxE)}, false}, {api.Disc{R: small(-1, -outer)}, false}, {api.Disc{R: small(1, -outer)}, true},
	} {
		asked(t, disc.Is(c.d), c.is, "Is", c.d)
	}
	singles(func(d api.Disc) {
		asked(t, disc.Is(d), value(d.R).m.Sign() >= 0, "Is", d)
	})
}

func TestOf(t *testing.T) { // P10.1
	want(t, disc.Of(at(3, -4)), meant(disc3(3, -4, 0)), "Of", at(3, -4))
	want(t, disc.Of(api.Cplx{}), meant(api.Disc{}), "Of", 0)
	singles(func(d api.Disc) {
		got := disc.Of(d.C)
		want(t, got, round{spot(d.C), whole(0)}, "Of", d.C)
		asked(t, disc.Is(got) && disc.Has(got, d.C), true, "Of", d.C)
	})
}

func TestHasWritten(t *testing.T) { // P10.1: within, on the border, beyond it
	for r := int64(-2); r < 8; r++ {
		for re := int64(-9); re < 10; re++ {
			for im := int64(-9); im < 10; im++ {
				far := re*re + im*im
				asked(t, disc.Has(disc3(2, -3, r), at(2+re, im-3)), far <= max(r, 0)*max(r, 0), "Has", disc3(2, -3, r), at(2+re, im-3))
			}
		}
	}
}

func TestHas(t *testing.T) { // P10.1
	r := rand.New(rand.NewSource(103))
	singles(func(d api.Disc) {
		a := meant(d)
		for _, c := range inside(d) {
			asked(t, disc.Has(d, otherPoint(r, c)), true, "Has", d, cplxOf(c))
		}
		for _, x := range beside(a.r) {
			c := a.c.plus(point{x, whole(0)})
			asked(t, disc.Has(d, otherPoint(r, c)), a.has(c), "Has", d, cplxOf(c))
			c = a.c.less(point{whole(0), x})
			asked(t, disc.Has(d, otherPoint(r, c)), a.has(c), "Has", d, cplxOf(c))
		}
		c := somePoint(r, 3, 100)
		asked(t, disc.Has(d, c), a.has(spot(c)), "Has", d, c)
	})
	for range 500 { // on the border, however it lies, and beside it
		c, p, far := apart(r)
		for i, x := range beside(far) {
			d := otherDisc(r, round{c, x})
			asked(t, disc.Has(d, otherPoint(r, p)), i < 2 || far.m.Sign() == 0, "Has", d, cplxOf(p))
		}
	}
}

func TestInWritten(t *testing.T) { // P10.1
	for _, c := range []struct {
		a, b api.Disc
		in   bool
	}{
		{disc3(0, 0, 1), disc3(0, 0, 1), true}, {disc3(0, 0, 1), disc3(0, 0, 2), true}, {disc3(0, 0, 2), disc3(0, 0, 1), false}, {disc3(1, 0, 1), disc3(0, 0, 2), true}, {disc3(1, 1, 1), disc3(0, 0, 2), false},
		{disc3(3, 4, 1), disc3(0, 0, 6), true}, {disc3(3, 4, 2), disc3(0, 0, 6), false}, {disc3(3, 4, 0), disc3(0, 0, 5), true}, {disc3(3, 4, 0), disc3(0, 0, 4), false}, {disc3(3, -4, 7), disc3(0, 0, 12), true},
		// As far within as it were if the greater one were in the lesser one.
		{disc3(3, 4, 6), disc3(0, 0, 1), false}, {disc3(0, 0, 6), disc3(3, 4, 1), false}, {disc3(9, 9, 1), disc3(0, 0, 2), false}, {disc3(1, 0, 1), disc3(0, 0, 1), false},
		// Below 0 counts as 0, on either side.
		{disc3(1, 0, -1), disc3(0, 0, 1), true}, {disc3(2, 0, -1), disc3(0, 0, 1), false}, {disc3(1, 1, -5), disc3(1, 1, -9), true}, {disc3(1, 1, -9), disc3(1, 1, 0), true}, {disc3(1, 1, 0), disc3(1, 1, -9), true}, {disc3(1, 1, 1), disc3(1, 1, -1), false}, {disc3(2, 0, -3), disc3(0, 0, -1), false}, {disc3(2, 0, -1), disc3(0, 0, -3), false},
	} {
		asked(t, disc.In(c.a, c.b), c.in, "In", c.a, c.b)
	}
}

func TestIn(t *testing.T) { // P10.1
	in, all := 0, 0
	pairs(func(a, b api.Disc) {
		wanted := meant(a).within(meant(b))
		asked(t, disc.In(a, b), wanted, "In", a, b)
		asked(t, disc.In(a, a), true, "In", a, a)
		all++
		if wanted {
			in++
		}
	})
	asked(t, in > all/10 && in < all-all/10, true, "In: of both kinds", in, all)
}

func TestApartWritten(t *testing.T) { // P10.1: with the chapter's example
	for _, c := range []struct {
		a, b  api.Disc
		apart bool
	}{
		{disc3(0, 0, 1), disc3(3, 0, 1), true}, {disc3(0, 0, 1), disc3(3, 0, 2), false}, {disc3(0, 0, 1), disc3(3, 0, 3), false}, {disc3(0, 0, 1), disc3(0, 0, 1), false}, {disc3(0, 0, 0), disc3(0, 0, 0), false},
		{disc3(0, 0, 2), disc3(3, 4, 3), false}, {disc3(0, 0, 2), disc3(3, 4, 2), true}, {disc3(0, 0, 9), disc3(1, 1, 1), false}, {disc3(0, 0, 0), disc3(0, 1, 0), true}, {disc3(-3, -4, 2), disc3(0, 0, 2), true},
		// Below 0 counts as 0, on either side.
		{disc3(0, 0, -9), disc3(1, 0, -9), true}, {disc3(0, 0, -9), disc3(0, 0, -9), false}, {disc3(0, 0, 2), disc3(2, 0, -1), false}, {disc3(2, 0, -1), disc3(0, 0, 2), false}, {disc3(0, 0, 1), disc3(2, 0, -7), true},
	} {
		asked(t, disc.Apart(c.a, c.b), c.apart, "Apart", c.a, c.b)
		asked(t, disc.Apart(c.b, c.a), c.apart, "Apart", c.b, c.a)
	}
}

func TestApart(t *testing.T) { // P10.1
	clear, all := 0, 0
	pairs(func(a, b api.Disc) {
		wanted := meant(a).apart(meant(b))
		asked(t, disc.Apart(a, b), wanted, "Apart", a, b)
		asked(t, disc.Apart(b, a), wanted, "Apart", b, a)
		asked(t, wanted && disc.In(a, b), false, "Apart and In", a, b)
		all++
		if wanted {
			clear++
		}
	})
	asked(t, clear > all/10 && clear < all-all/10, true, "Apart: of both kinds", clear, all)
}

func TestSame(t *testing.T) { // P10.1
	r := rand.New(rand.NewSource(104))
	pairs(func(a, b api.Disc) {
		asked(t, disc.Same(a, b), meant(a).within(meant(b)) && meant(b).within(meant(a)), "Same", a, b)
		way := otherDisc(r, meant(a))
		asked(t, disc.Same(a, way) && disc.Same(way, a), true, "Same", a, way)
	})
	for _, d := range []api.Disc{disc3(0, 2, 3), disc3(1, 0, 3), disc3(1, 2, 0), disc3(1, 2, -3), disc3(2, 1, 3), disc3(-1, 2, 3), {}} {
		asked(t, disc.Same(disc3(1, 2, 3), d), false, "Same", d)
		asked(t, disc.Same(d, disc3(1, 2, 3)), false, "Same", d)
	}
	asked(t, disc.Same(disc3(1, 2, 0), disc3(1, 2, -3)), true, "Same of R's that count as 0")
}

func TestGrow(t *testing.T) { // P10.1
	for _, c := range []struct {
		d    api.Disc
		n    int64
		want api.Disc
	}{
		{disc3(1, 2, 3), 3, disc3(1, 2, 9)}, {disc3(1, 2, 3), 1, disc3(1, 2, 3)}, {disc3(1, 2, 3), 0, disc3(1, 2, 0)}, {disc3(1, 2, 3), -1, disc3(1, 2, 0)}, {disc3(1, 2, 3), math.MinInt64, disc3(1, 2, 0)},
		{disc3(1, 2, -3), 3, disc3(1, 2, 0)}, {disc3(1, 2, -3), -3, disc3(1, 2, 0)}, {disc3(-1, -2, 0), 7, disc3(-1, -2, 0)}, {disc3(1, 2, 1), math.MaxInt64, disc3(1, 2, math.MaxInt64)},
	} {
		want(t, disc.Grow(c.d, c.n), meant(c.want), "Grow", c.d, c.n)
	}
	singles(func(d api.Disc) {
		a := meant(d)
		for _, n := range []int64{0, 1, 2, 3, 5, 1 << 33, math.MaxInt64, -1, math.MinInt64} {
			want(t, disc.Grow(d, n), round{a.c, product(a.r, whole(max(n, 0)))}, "Grow", d, n)
		}
	})
}

func TestInside(t *testing.T) { // P10.2
	for _, c := range []struct {
		d    api.Disc
		want api.Rect
	}{
		{disc3(1, 2, 3), from4(-2, 4, -1, 5)}, {disc3(-5, 0, 2), from4(-7, -3, -2, 2)}, {disc3(1, 2, 0), from4(1, 1, 2, 2)}, {disc3(1, 2, -3), from4(1, 1, 2, 2)}, {api.Disc{}, from4(0, 0, 0, 0)},
	} {
		wantRect(t, disc.Inside(c.d), c.want, "Inside", c.d)
	}
	singles(func(d api.Disc) {
		a, got := meant(d), disc.Inside(d)
		low, high := cplxOf(a.c.less(point{a.r, a.r})), cplxOf(a.c.plus(point{a.r, a.r}))
		wantRect(t, got, api.Rect{Re: api.Real{Lo: low.Re, Hi: high.Re}, Im: api.Real{Lo: low.Im, Hi: high.Im}}, "Inside", d)
		asked(t, rect.Is(got), true, "Inside", d)
	})
}

// surrounds holds Around of x against math/big, rect and quot.
func surrounds(t *testing.T, x api.Rect, p int) {
	t.Helper()
	from, to := spot(api.Cplx{Re: x.Re.Lo, Im: x.Im.Lo}), spot(api.Cplx{Re: x.Re.Hi, Im: x.Im.Hi})
	both := from.plus(to)
	c := point{moved(both.re, -1), moved(both.im, -1)}
	got := disc.Around(x, p)
	want(t, got, round{c, distance(to.less(c), p)}, "Around", x, p)
	asked(t, gauss.Same(got.C, rect.Middle(x)), true, "Around", x, p)
	r, _ := quot.Root(gauss.Norm(cplxOf(to.less(c))), p, api.Up)
	wantDyad(t, got.R, value(r), "Around", x, p)
}

// TestAroundWritten has what is wanted in halves.
func TestAroundWritten(t *testing.T) { // P10.2
	half := func(re, im, r int64) api.Disc {
		return api.Disc{C: api.Cplx{Re: small(re, -1), Im: small(im, -1)}, R: small(r, -1)}
	}
	for _, c := range []struct {
		x    api.Rect
		p    int
		want api.Disc
	}{
		{from4(0, 6, 0, 8), 9, disc3(3, 4, 5)}, {from4(6, 0, 0, 8), 9, disc3(3, 4, 5)}, {from4(0, 6, 8, 0), 9, disc3(3, 4, 5)}, {from4(6, 0, 8, 0), 9, disc3(3, 4, 5)}, {from4(-3, 3, -4, 4), 2, disc3(0, 0, 6)}, {from4(-3, 3, -4, 4), 1, disc3(0, 0, 8)}, {from4(-3, 3, -4, 4), math.MinInt, disc3(0, 0, 8)},
		{from4(2, 5, 7, 7), 5, half(7, 14, 3)}, {from4(7, 7, 2, 5), 5, half(14, 7, 3)}, {from4(1, 1, 2, 2), 5, disc3(1, 2, 0)}, {api.Rect{}, 5, api.Disc{}}, {from4(0, 3, 1, 5), 20, half(3, 6, 5)}, {from4(-1, 1, -1, 1), 3, half(0, 0, 3)}, {from4(-1, 1, -1, 1), 2, half(0, 0, 3)}, {from4(-1, 1, -1, 1), 1, disc3(0, 0, 2)},
	} {
		want(t, disc.Around(c.x, c.p), meant(c.want), "Around", c.x, c.p)
	}
}

func TestAround(t *testing.T) { // P10.2
	r := rand.New(rand.NewSource(105))
	for i := range 1500 {
		surrounds(t, someRect(r, 4, 60), i%150)
		surrounds(t, someRect(r, 3, api.MaxE+50), precisions[i%len(precisions)])
	}
	for a := int64(-3); a < 4; a++ {
		for b := int64(-3); b < 4; b++ {
			for _, p := range precisions {
				surrounds(t, from4(a, b, b, 2), p)
			}
		}
	}
	// Beyond both ends at which the multiples are held.
	for _, e := range []int{-3 * api.MaxE, -api.MaxE - 1, api.MaxE + 9, 3 * api.MaxE} {
		for _, p := range precisions {
			surrounds(t, api.Rect{Re: api.Real{Lo: small(-3, e), Hi: small(5, e)}, Im: api.Real{Lo: small(1, -e), Hi: small(7, e)}}, p)
		}
	}
}

// TestFarFrom has middles that lie so far from each other that what stands
// between them is much longer than they are, and asks just at the border.
func TestFarFrom(t *testing.T) { // P10.1
	for _, turn := range []point{{whole(1), whole(0)}, {whole(0), whole(1)}, {whole(-1), whole(0)}, {whole(0), whole(-1)}} {
		at := func(re, im number) api.Cplx { return cplxOf(point{re, im}.times(turn)) }
		little, great := value(small(1, -outer)), value(small(1, outer))
		wide := api.Disc{C: at(great, little), R: dyadOf(great)}
		within := func(r number) api.Disc { return api.Disc{C: at(little, little), R: dyadOf(r)} }
		beyond := func(r number) api.Disc { return api.Disc{C: at(other(little), little), R: dyadOf(r)} }
		asked(t, disc.Has(wide, within(little).C), true, "Has", wide, within(little).C)
		asked(t, disc.Has(wide, beyond(little).C), false, "Has", wide, beyond(little).C)
		asked(t, disc.Has(wide, at(great, great)), true, "Has", wide, at(great, great))
		asked(t, disc.Has(wide, at(great, other(great))), false, "Has", wide, at(great, other(great)))
		asked(t, disc.In(within(little), wide), true, "In", within(little), wide)
		asked(t, disc.In(within(moved(little, 1)), wide), false, "In", within(moved(little, 1)), wide)
		asked(t, disc.In(beyond(whole(0)), wide), false, "In", beyond(whole(0)), wide)
		asked(t, disc.Apart(wide, beyond(little)), false, "Apart", wide, beyond(little))
		asked(t, disc.Apart(beyond(moved(little, -1)), wide), true, "Apart", beyond(moved(little, -1)), wide)
		asked(t, disc.Apart(within(whole(0)), wide), false, "Apart", within(whole(0)), wide)
	}
}

func TestAroundFar(t *testing.T) { // P10.2: likewise
	little, great := small(-1, -outer), small(1, outer)
	x := api.Rect{Re: api.Real{Lo: little, Hi: great}, Im: api.Real{Lo: small(7, 0), Hi: little}}
	got := disc.Around(x, 9)
	asked(t, gauss.Same(got.C, rect.Middle(x)), true, "Around", x)
	// A little more than half of the great one, in the multiples that there are
	// so far up.
	r := new(big.Int).Lsh(big.NewInt(1), outer-1-api.MaxE)
	wantDyad(t, got.R, newNumber(r.Add(r, big.NewInt(1)), api.MaxE), "Around", x)
}
