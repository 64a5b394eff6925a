package gauss_test

import (
	"math/big"
	"math/rand"
	"slices"

	"annulus/api"
)

// mags: at the edges: nothing, noughts only, noughts on top, even ones, full
// limbs, a single bit on either side of a limb's border.
var mags = [][]uint32{
	nil, {0, 0},
	{1}, {1, 0, 0}, {2}, {3}, {4, 0}, {7}, {12}, {1 << 31},
	{top}, {0, 1}, {1, 1, 0}, {top, top}, {0, 0, 1}, {1, 0, 1},
}

// edges: each of mags with either sign, 0 too, at some exponents.
func edges() []api.Dyad {
	var out []api.Dyad
	for _, m := range mags {
		for _, e := range []int{0, 1, -1, -33, 64, api.MaxE, -api.MaxE} {
			out = append(out, api.Dyad{M: api.Int{Mag: m}, E: e}, api.Dyad{M: api.Int{Neg: true, Mag: m}, E: e})
		}
	}
	return out
}

// some: a number by chance, often even, with noughts on top, at a limb's edges.
func some(r *rand.Rand, limbs, reach int) api.Dyad {
	mag := make([]uint32, r.Intn(limbs+1))
	for i := range mag {
		mag[i] = []uint32{0, 0, 1, top, 1 << 31, r.Uint32(), r.Uint32() << r.Intn(32)}[r.Intn(7)]
	}
	return api.Dyad{M: api.Int{Neg: r.Intn(2) > 0, Mag: mag}, E: r.Intn(2*reach+1) - reach}
}

// somePoint: a point by chance, often with parts that are the same, or as far
// from 0, or 0.
func somePoint(r *rand.Rand, limbs, reach int) api.Cplx {
	a, b := some(r, limbs, reach), some(r, limbs, reach)
	switch r.Intn(9) {
	case 0:
		b = otherWay(r, value(a))
	case 1:
		b = otherWay(r, other(value(a)))
	case 2:
		b.M.Mag = make([]uint32, r.Intn(3))
	case 3:
		a.M.Mag = make([]uint32, r.Intn(3))
	}
	return api.Cplx{Re: a, Im: b}
}

// otherWay: x, in one of the ways that it may be written.
func otherWay(r *rand.Rand, x number) api.Dyad {
	low := r.Intn(70)
	d := dyadOf(number{new(big.Int).Lsh(x.m, uint(low)), x.e - low})
	d.M.Mag = append(d.M.Mag, make([]uint32, r.Intn(3))...)
	if x.m.Sign() == 0 {
		d.M.Neg, d.E = low%2 > 0, low-30
	}
	return d
}

// otherPoint: a, each part in one of such ways.
func otherPoint(r *rand.Rand, a api.Cplx) api.Cplx {
	return api.Cplx{Re: otherWay(r, value(a.Re)), Im: otherWay(r, value(a.Im))}
}

// few: the points with small whole parts.
func few() []api.Cplx {
	var out []api.Cplx
	for re := int64(-3); re < 4; re++ {
		for im := int64(-3); im < 4; im++ {
			out = append(out, at(re, im))
		}
	}
	return out
}

// singles calls f with few, with points of edges, and by chance.
func singles(f func(a api.Cplx)) {
	for _, a := range few() {
		f(a)
	}
	all := edges()
	for i, x := range all {
		f(api.Cplx{Re: x, Im: x})
		f(api.Cplx{Re: x, Im: all[i*89%len(all)]})
		f(api.Cplx{Re: all[i*83%len(all)]})
		f(api.Cplx{Im: x})
	}
	r := rand.New(rand.NewSource(81))
	for range 1500 {
		f(somePoint(r, 5, 100))
		f(somePoint(r, 5, api.MaxE+50))
	}
}

// pairs calls f with all pairs of few, with pairs of edges, and by chance.
func pairs(f func(a, b api.Cplx)) {
	for _, a := range few() {
		for _, b := range few() {
			f(a, b)
		}
	}
	r := rand.New(rand.NewSource(82))
	all := edges()
	for range 1500 {
		f(api.Cplx{Re: all[r.Intn(len(all))], Im: all[r.Intn(len(all))]}, api.Cplx{Re: all[r.Intn(len(all))], Im: all[r.Intn(len(all))]})
		f(somePoint(r, 4, 60), somePoint(r, 3, 60))
		f(somePoint(r, 3, 60), somePoint(r, 3, api.MaxE+50))
		a := somePoint(r, 3, 60) // and some that leave nothing of a part
		f(a, otherPoint(r, cplxOf(meant(a).mirrored())))
		f(a, otherPoint(r, cplxOf(meant(a).both(other))))
		f(a, otherPoint(r, api.Cplx{Re: a.Im, Im: a.Re}))
	}
}

// ways: one number, written in several ways.
func ways(x api.Dyad) []api.Dyad {
	n := value(x)
	out := []api.Dyad{x, dyadOf(n)}
	for _, low := range []uint{1, 32, 45} {
		way := dyadOf(number{new(big.Int).Lsh(n.m, low), n.e - int(low)})
		if n.m.Sign() == 0 {
			way.E, way.M.Neg = int(low)-40, low%2 > 0
		}
		out = append(out, way)
		way.M.Mag = append(slices.Clone(way.M.Mag), 0, 0)
		out = append(out, way)
	}
	return out
}
