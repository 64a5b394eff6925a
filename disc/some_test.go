package disc_test

import (
	"math"
	"math/big"
	"math/rand"
	"slices"

	"annulus/api"
)

// precisions: where a limb's border is passed, and where p is held.
var precisions = []int{1, 0, math.MinInt, 2, 3, 31, 32, 33, 64, 97, api.MaxBits, api.MaxBits + 1, math.MaxInt}

// mags: at the edges: nothing, noughts only, noughts on top, even ones, full
// limbs, a single bit on either side of a limb's border.
var mags = [][]uint32{
	nil, {0, 0},
	{1}, {1, 0, 0}, {2}, {3}, {4, 0}, {7}, {12}, {1 << 31},
	{top}, {0, 1}, {1, 1, 0}, {top, top}, {0, 0, 1}, {1, 0, 1},
}

// edges: each of mags with either sign, 0 too, at some exponents.
func edges() []api.Dyad {
	var out []api.Dyad
	for _, m := range mags {
		for _, e := range []int{0, 1, -1, -33, 64, api.MaxE, -api.MaxE} {
			out = append(out, api.Dyad{M: api.Int{Mag: m}, E: e}, api.Dyad{M: api.Int{Neg: true, Mag: m}, E: e})
		}
	}
	return out
}

// some: a number by chance, often even, with noughts on top, at a limb's edges.
func some(r *rand.Rand, limbs, reach int) api.Dyad {
	mag := make([]uint32, r.Intn(limbs+1))
	for i := range mag {
		mag[i] = []uint32{0, 0, 1, top, 1 << 31, r.Uint32(), r.Uint32() << r.Intn(32)}[r.Intn(7)]
	}
	return api.Dyad{M: api.Int{Neg: r.Intn(2) > 0, Mag: mag}, E: r.Intn(2*reach+1) - reach}
}

// somePoint: of two such parts, of which some are the same, or 0.
func somePoint(r *rand.Rand, limbs, reach int) api.Cplx {
	c := api.Cplx{Re: some(r, limbs, reach), Im: some(r, limbs, reach)}
	switch r.Intn(9) {
	case 0:
		c.Im = c.Re
	case 1:
		c.Re = api.Dyad{}
	case 2:
		c.Im = api.Dyad{}
	}
	return c
}

// someDisc: around such a point, R by chance too, a fourth of them below 0.
func someDisc(r *rand.Rand, limbs, reach int) api.Disc {
	d := api.Disc{C: somePoint(r, limbs, reach), R: some(r, limbs, reach)}
	switch r.Intn(9) {
	case 0:
		d.R.M.Mag = nil
	case 1, 2, 3, 4:
		d.R.M.Neg = false
	}
	return d
}

// someRect: from one such point to another one.
func someRect(r *rand.Rand, limbs, reach int) api.Rect {
	a, b := somePoint(r, limbs, reach), somePoint(r, limbs, reach)
	switch r.Intn(6) {
	case 0:
		b.Re = otherWay(r, value(a.Re))
	case 1:
		b = otherPoint(r, spot(a))
	}
	return api.Rect{Re: api.Real{Lo: a.Re, Hi: b.Re}, Im: api.Real{Lo: a.Im, Hi: b.Im}}
}

// otherWay: x, in one of the ways that it may be written.
func otherWay(r *rand.Rand, x number) api.Dyad {
	low := r.Intn(70)
	d := dyadOf(number{new(big.Int).Lsh(x.m, uint(low)), x.e - low})
	d.M.Mag = append(d.M.Mag, make([]uint32, r.Intn(3))...)
	if x.m.Sign() == 0 {
		d.M.Neg, d.E = low%2 > 0, low-30
	}
	return d
}

// otherPoint: c, in one of the ways that it may be written.
func otherPoint(r *rand.Rand, c point) api.Cplx {
	return api.Cplx{Re: otherWay(r, c.re), Im: otherWay(r, c.im)}
}

// otherDisc: d, in one of the ways that it may be written; an R that is 0 is
// below 0 now and then.
func otherDisc(r *rand.Rand, d round) api.Disc {
	out := api.Disc{C: otherPoint(r, d.c), R: otherWay(r, d.r)}
	if d.r.m.Sign() == 0 && r.Intn(2) > 0 {
		out.R = small(-1-r.Int63n(9), r.Intn(99)-50)
	}
	return out
}

// few: around small whole points, with each small R, also below 0.
func few() []api.Disc {
	var out []api.Disc
	for re := int64(-2); re < 3; re++ {
		for im := int64(-2); im < 3; im++ {
			for r := int64(-1); r < 4; r++ {
				out = append(out, disc3(re, im, r))
			}
		}
	}
	return out
}

// singles calls f with few, with some between edges, and by chance.
func singles(f func(d api.Disc)) {
	for _, d := range few() {
		f(d)
	}
	all := edges()
	for i, a := range all {
		f(api.Disc{C: api.Cplx{Re: a, Im: all[i*89%len(all)]}, R: all[i*37%len(all)]})
	}
	r := rand.New(rand.NewSource(101))
	for range 800 {
		f(someDisc(r, 5, 100))
		f(someDisc(r, 3, api.MaxE+50))
	}
}

// pairs calls f with pairs of few, of edges, of such as touch, and by chance.
func pairs(f func(a, b api.Disc)) {
	little := few()
	for i, a := range little {
		for _, step := range []int{1, 7, 23, 61, 113} {
			f(a, little[(i*step+step)%len(little)])
		}
	}
	r := rand.New(rand.NewSource(102))
	all := edges()
	edge := func() api.Dyad { return all[r.Intn(len(all))] }
	for range 500 {
		f(api.Disc{C: api.Cplx{Re: edge(), Im: edge()}, R: edge()}, api.Disc{C: api.Cplx{Re: edge(), Im: edge()}, R: edge()})
		f(someDisc(r, 4, 60), someDisc(r, 3, 60))
		f(someDisc(r, 3, 60), someDisc(r, 3, api.MaxE+50))
	}
	touching(r, f)
}

// triples: points of whole parts, so many from 0.
var triples = [][3]int64{{1, 0, 1}, {0, -1, 1}, {3, 4, 5}, {-4, 3, 5}, {5, -12, 13}, {-15, -8, 17}, {20, 21, 29}, {0, 0, 0}}

// apart: a point, and one so far from it.
func apart(r *rand.Rand) (point, point, number) {
	c, scale := spot(somePoint(r, 3, 60)), meant(someDisc(r, 3, 60)).r
	way := triples[r.Intn(len(triples))]
	step := point{product(whole(way[0]), scale), product(whole(way[1]), scale)}
	return c, c.plus(step), product(whole(way[2]), scale)
}

// beside: x, and what lies a little below and above it; 0 instead of less.
func beside(x number) []number {
	little := newNumber(big.NewInt(1), x.e-99)
	out := []number{x, sum(x, little), difference(x, little)}
	if x.m.Sign() == 0 {
		out[2] = x
	}
	return out
}

// touching calls f with discs that touch each other, from without and from
// within, and with those that nearly do.
func touching(r *rand.Rand, f func(a, b api.Disc)) {
	for range 300 {
		c, d, far := apart(r)
		part := product(far, newNumber(big.NewInt(r.Int63n(9)), -3))
		for _, rest := range beside(difference(far, part)) {
			f(otherDisc(r, round{c, part}), otherDisc(r, round{d, rest}))
		}
		inner := meant(someDisc(r, 3, 60)).r
		for _, outer := range beside(sum(inner, far)) {
			f(otherDisc(r, round{c, inner}), otherDisc(r, round{d, outer}))
			f(otherDisc(r, round{d, outer}), otherDisc(r, round{c, inner}))
		}
	}
}

// offsets: points of the unit circle, in eighths and finer, on its border and
// near it.
var offsets = []struct {
	re, im int64
	e      int
}{
	{0, 0, 0}, {1, 0, 0}, {-1, 0, 0}, {0, 1, 0}, {0, -1, 0}, {1, 1, -1}, {5, -6, -3}, {-181, 181, -8}, {-181, -181, -8}, {2621, 3147, -12}, {-4095, 90, -12},
}

// inside: points of d.
func inside(d api.Disc) []point {
	var out []point
	a := meant(d)
	for _, o := range offsets {
		re, im := product(a.r, newNumber(big.NewInt(o.re), o.e)), product(a.r, newNumber(big.NewInt(o.im), o.e))
		out = append(out, a.c.plus(point{re, im}))
	}
	return out
}

// ways: one number, written in several ways.
func ways(x api.Dyad) []api.Dyad {
	n := value(x)
	out := []api.Dyad{x, dyadOf(n)}
	for _, low := range []uint{1, 32, 45} {
		way := dyadOf(number{new(big.Int).Lsh(n.m, low), n.e - int(low)})
		if n.m.Sign() == 0 {
			way.E, way.M.Neg = int(low)-40, low%2 > 0
		}
		out = append(out, way)
		way.M.Mag = append(slices.Clone(way.M.Mag), 0, 0)
		out = append(out, way)
	}
	return out
}
