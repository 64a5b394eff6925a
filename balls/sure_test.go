package balls_test

import (
	"math"
	"math/big"
	"math/rand"
	"slices"
	"testing"

	"annulus/api"
	"annulus/balls"
	"annulus/disc"
	"annulus/gauss"
	"annulus/poly"
)

// worth: f's value at z, by powers.
func worth(f []point, z point) point {
	out, power := nought(), spot(at(1, 0))
	for _, c := range f {
		out = out.plus(c.times(power))
		power = power.times(z)
	}
	return out
}

// TestWhatItIs sees that whatever a polynomial and a point are, the value is
// there.
func TestWhatItIs(t *testing.T) { // P12.2
	r := rand.New(rand.NewSource(126))
	places(func(p []api.Disc, x api.Disc, bits int) {
		got := meant(balls.At(p, x, bits))
		for range 3 {
			f, z := members(r, meantAll(p)), member(r, meant(x))
			asked(t, got.has(worth(f, z)), true, "At", p, x, bits)
			points := otherPoly(r, f)
			asked(t, disc.Has(balls.At(p, x, bits), poly.At(points, cplxOf(z))), true, "At", p, x, bits, points, cplxOf(z))
		}
		asked(t, balls.Zero(p) && !got.has(nought()), false, "At and Zero", p, x, bits)
	})
}

// TestWhatTheyAre sees that sums and derivatives are there likewise.
func TestWhatTheyAre(t *testing.T) { // P12.1, P12.2
	r := rand.New(rand.NewSource(127))
	pairs(func(p, q []api.Disc) {
		f, g := otherPoly(r, members(r, meantAll(p))), otherPoly(r, members(r, meantAll(q)))
		sums, slopes := balls.Add(p, q), balls.Deriv(p)
		asked(t, balls.Has(p, f) && balls.Has(q, g), true, "Has", p, q, f, g)
		asked(t, balls.Has(sums, poly.Add(f, g)), true, "Add", p, q, f, g)
		asked(t, balls.Has(slopes, poly.Deriv(f)), true, "Deriv", p, f)
		asked(t, balls.Zero(p) == balls.Has(p, nil), true, "Zero", p)
		asked(t, balls.Zero(p) && balls.Zero(q) && !balls.Zero(sums), false, "Zero of Add", p, q)
		asked(t, balls.Zero(p) && !balls.Zero(slopes), false, "Zero of Deriv", p)
		asked(t, order(value(balls.Wide(sums)), sum(value(balls.Wide(p)), value(balls.Wide(q)))) <= 0, true, "Wide of Add", p, q)
	})
}

// TestAllKnown sees that where all is known just that is told.
func TestAllKnown(t *testing.T) { // P12.1, P12.2
	r := rand.New(rand.NewSource(128))
	i := 0
	pairs(func(p, q []api.Disc) {
		i++
		if i%3 > 0 {
			return
		}
		f, g := otherPoly(r, members(r, meantAll(p))), otherPoly(r, members(r, meantAll(q)))
		z := somePoint(r, 2, 40)
		wantDisc(t, balls.At(balls.Of(f), disc.Of(z), i%40), round{spot(poly.At(f, z)), whole(0)}, "At of Of", f, z)
		want(t, balls.Deriv(balls.Of(f)), meantAll(balls.Of(poly.Deriv(f))), "Deriv of Of", f)
		sums := balls.Add(balls.Of(f), balls.Of(g))
		asked(t, balls.Has(sums, poly.Add(f, g)), true, "Add of Of", f, g)
		wantDyad(t, balls.Wide(sums), whole(0), "Wide of Of", f, g)
		asked(t, balls.Zero(balls.Of(f)), poly.Degree(f) < 0, "Zero of Of", f)
		asked(t, balls.Has(balls.Of(f), g), poly.Same(f, g), "Has of Of", f, g)
	})
}

// answers: all lists of discs that the calls answer to p, q, x, f.
func answers(p, q []api.Disc, x api.Disc, f []api.Cplx, bits int) [][]api.Disc {
	return [][]api.Disc{balls.Of(f), {balls.At(p, x, bits)}, {balls.At(p[:min(len(p), 1)], x, bits)}, {balls.At(nil, x, bits)}, balls.Add(p, q), balls.Add(p, nil), balls.Add(nil, q), balls.Deriv(p), balls.Deriv(q), {{R: balls.Wide(p)}}, {{R: balls.Wide(q)}}}
}

// told: what else they answer.
func told(p, q []api.Disc, f []api.Cplx) [4]bool {
	return [4]bool{balls.Has(p, f), balls.Has(q, f), balls.Zero(p), balls.Zero(q)}
}

// TestOtherWays sees that the calls answer alike, however numbers are written;
// an R of 0 may be written as one below 0.
func TestOtherWays(t *testing.T) { // P12.1
	r := rand.New(rand.NewSource(129))
	i := 0
	pairs(func(p, q []api.Disc) {
		i++
		if i%4 > 0 {
			return
		}
		a, b, x := meantAll(p), meantAll(q), meant(someDisc(r, 2, 40))
		f := members(r, a)
		wanted := answers(discsOf(a), discsOf(b), discOf(x), otherPoly(r, f), i%70)
		toldWanted := told(discsOf(a), discsOf(b), otherPoly(r, f))
		v, w, y, g := otherBalls(r, a), otherBalls(r, b), otherDisc(r, x), otherPoly(r, f)
		for j, got := range answers(v, w, y, g, i%70) {
			asked(t, alikeAll(got, wanted[j]), true, "answer", j, v, w, y, g)
		}
		asked(t, told(v, w, g) == toldWanted, true, "told", v, w, g)
	})
}

// TestBelow sees that an R below 0 counts as 0, however far below.
func TestBelow(t *testing.T) { // P12.1
	r := rand.New(rand.NewSource(130))
	i := 0
	pairs(func(p, q []api.Disc) {
		i++
		if i%10 > 0 {
			return
		}
		points, below := slices.Clone(p), slices.Clone(p)
		x := someDisc(r, 2, 40)
		point, beneath := x, x
		for _, n := range []api.Dyad{small(-1, 0), small(-7, api.MaxE), small(-1, -outer), {M: api.Int{Neg: true, Mag: []uint32{0, 12, 0}}, E: 5}, {M: api.Int{Neg: true}, E: 5}} {
			for j := range p {
				points[j].R, below[j].R = api.Dyad{}, n
			}
			point.R, beneath.R = api.Dyad{}, n
			f := otherPoly(r, members(r, meantAll(below)))
			wanted := answers(points, q, point, f, i%70)
			for j, got := range answers(below, q, beneath, f, i%70) {
				asked(t, alikeAll(got, wanted[j]), true, "answer", j, below, q, beneath, f)
			}
			asked(t, told(points, q, f) == told(below, q, f) && balls.Has(below, f), true, "told", below, q, f)
		}
	})
}

// TestFarthest has the farthest exponents of which something is promised.
func TestFarthest(t *testing.T) { // P12.1, P12.2
	great, little := small(-3, outer), small(7, -outer)
	ps := [][]api.Disc{
		{{C: api.Cplx{Re: great, Im: little}, R: small(5, outer)}, disc3(1, 2, 3)}, {disc3(5, 0, 0), {C: api.Cplx{Re: little}, R: small(1, -outer)}}, {{C: api.Cplx{Im: little}, R: small(1, 0)}, {R: small(-1, outer)}}, {{C: api.Cplx{Re: great}}},
	}
	r := rand.New(rand.NewSource(131))
	for i, p := range ps {
		q := ps[(i+1)%len(ps)]
		a, b := meantAll(p), meantAll(q)
		want(t, balls.Add(p, q), both(a, b), "Add", p, q)
		want(t, balls.Deriv(p), slope(a), "Deriv", p)
		f := otherPoly(r, members(r, a))
		asked(t, balls.Has(p, f), true, "Has", p, f)
		more := sum(a[0].r, a[0].r)
		if more.m.Sign() == 0 {
			more = value(small(1, -outer))
		}
		f[0] = cplxOf(a[0].c.plus(point{whole(0), more}))
		asked(t, balls.Has(p, f), false, "Has", p, f)
		for _, x := range []api.Disc{disc3(3, 4, 1), {C: api.Cplx{Re: little, Im: small(5, 0)}, R: small(1, -outer)}} {
			wantDisc(t, balls.At(p, x, 40), valueAt(a, meant(x), 40), "At", p, x)
		}
		asked(t, balls.Zero(p), i == 0 || i == 2, "Zero", p)
		known := balls.Of(middles(p))
		for _, z := range []api.Cplx{{Re: great, Im: little}, {Im: great}, {Re: little}} {
			wantDisc(t, balls.At(known, disc.Of(z), 1), round{worth(trimmed(middles(p)), spot(z)), whole(0)}, "At of Of", known, z)
		}
	}
	wantDyad(t, balls.Wide(slices.Concat(ps...)), value(small(5, outer)), "Wide", ps[0])
}

// TestMaxE has exponents as they are read, in places where one at the other end
// is to be added.
func TestMaxE(t *testing.T) { // P12.1, P12.2
	r := rand.New(rand.NewSource(132))
	x := api.Disc{C: api.Cplx{Re: small(-3, api.MaxE), Im: small(5, -api.MaxE)}, R: small(1, api.MaxE-20)}
	var p []api.Disc
	for i := range 9 {
		e := api.MaxE * (1 - i%3)
		p = append(p, api.Disc{C: api.Cplx{Re: small(r.Int63n(99)-50, e), Im: small(1, -e)}, R: small(r.Int63n(5), -e)})
	}
	for _, bits := range []int{1, 53, api.MaxBits} {
		got := balls.At(p, x, bits)
		wantDisc(t, got, valueAt(meantAll(p), meant(x), bits), "At", p, x, bits)
		for range 5 {
			asked(t, meant(got).has(worth(members(r, meantAll(p)), member(r, meant(x)))), true, "At", p, x, bits)
		}
	}
	want(t, balls.Add(p, p[:5]), both(meantAll(p), meantAll(p[:5])), "Add", p)
	want(t, balls.Deriv(p), slope(meantAll(p)), "Deriv", p)
}

// TestBeyond sees that all calls come back, however far an exponent lies.
func TestBeyond(t *testing.T) { // P12.1
	exponents := []int{1 << 22, -outer - 1, 1 << 31, -1 << 40, math.MaxInt, math.MinInt}
	for i, e := range exponents {
		for _, m := range []int64{0, 1, -12} {
			x := api.Dyad{M: small(m, 0).M, E: e}
			y := api.Dyad{M: small(7, 0).M, E: exponents[(i+4)%len(exponents)]}
			for _, d := range []api.Disc{{C: api.Cplx{Re: x, Im: small(3, 0)}, R: small(1, 0)}, {C: api.Cplx{Re: small(3, 0), Im: x}, R: x}, {C: api.Cplx{Re: x, Im: y}, R: y}} {
				for _, p := range [][]api.Disc{{d, disc3(1, 2, 1)}, {disc3(1, 2, 1), d}, {d, d}} {
					f := []api.Cplx{d.C, at(1, 2)}
					answers(p, ballsOf(1, 2, 3, 4, 5, 6), d, f, math.MaxInt)
					answers(ballsOf(1, 2, 3, 4, 5, 6, 7, 8, 9), p, disc3(3, 4, 1), f, math.MinInt)
					told(p, ballsOf(1, 2, 3), f)
					asked(t, balls.Has(p, []api.Cplx{p[0].C, p[1].C}), true, "Has", p)
				}
			}
		}
	}
}

// TestLong has more discs than any polynomial is asked of, and numbers with
// very many noughts below.
func TestLong(t *testing.T) { // P12.1
	const n = 20000
	p := make([]api.Disc, n+1, n+500)
	p[0], p[7], p[n] = disc3(1, 0, 1), disc3(3, 0, 2), disc3(0, 2, 0)
	wantDisc(t, balls.At(p, disc3(0, 1, 0), 9), meant(disc3(1, -1, 3)), "At of a long one")
	asked(t, balls.Zero(p), false, "Zero of a long one")
	f := make([]api.Cplx, n+1, n+9)
	f[0], f[7], f[n] = gauss.Of(1, 1), gauss.Of(1, 0), gauss.Of(0, 2)
	asked(t, balls.Has(p, f), true, "Has of a long one")
	asked(t, balls.Has(p, f[:n]), false, "Has of a long one")
	asked(t, balls.Has(p, append(f, gauss.Of(1, 0))), false, "Has of a long one")
	wantDyad(t, balls.Wide(p), whole(2), "Wide of a long one")
	slopes := make([]api.Disc, n)
	slopes[6], slopes[n-1] = disc3(21, 0, 14), disc3(0, 2*n, 0)
	want(t, balls.Deriv(p), meantAll(slopes), "Deriv of a long one")
	long := api.Dyad{M: api.Int{Mag: append(make([]uint32, 1<<18), 5)}, E: -1 << 23}
	x := api.Disc{C: api.Cplx{Re: long, Im: small(-3, 0)}, R: long}
	short := disc3(5, -3, 5)
	wantDisc(t, balls.At(slices.Repeat([]api.Disc{short}, 200), x, 30), meant(balls.At(slices.Repeat([]api.Disc{short}, 200), short, 30)), "At a long one")
	want(t, balls.Deriv([]api.Disc{{}, x, x}), []round{meant(short), {meant(short).c.plus(meant(short).c), newNumber(big.NewInt(5), 1)}}, "Deriv of a long one")
}
