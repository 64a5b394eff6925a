package graeffe_test

import (
	"math/big"
	"math/rand"
	"slices"

	"annulus/api"
)

// mags: at the edges: nothing, noughts only, noughts on top, even ones, full
// limbs, a single bit on either side of a limb's border.
var mags = [][]uint32{
	nil, {0, 0},
	{1}, {1, 0, 0}, {2}, {3}, {4, 0}, {7}, {12}, {1 << 31},
	{top}, {0, 1}, {1, 1, 0}, {top, top}, {0, 0, 1}, {1, 0, 1},
}

// edges: each of mags with either sign, 0 too, at some exponents.
func edges() []api.Dyad {
	var out []api.Dyad
	for _, m := range mags {
		for _, e := range []int{0, 1, -1, -33, 64, api.MaxE, -api.MaxE} {
			out = append(out, api.Dyad{M: api.Int{Mag: m}, E: e}, api.Dyad{M: api.Int{Neg: true, Mag: m}, E: e})
		}
	}
	return out
}

// some: a number by chance, often even, with noughts on top, at a limb's edges.
func some(r *rand.Rand, limbs, reach int) api.Dyad {
	mag := make([]uint32, r.Intn(limbs+1))
	for i := range mag {
		mag[i] = []uint32{0, 0, 1, top, 1 << 31, r.Uint32(), r.Uint32() << r.Intn(32)}[r.Intn(7)]
	}
	return api.Dyad{M: api.Int{Neg: r.Intn(2) > 0, Mag: mag}, E: r.Intn(2*reach+1) - reach}
}

// somePoint: of two such parts, of which some are the same, or 0.
func somePoint(r *rand.Rand, limbs, reach int) api.Cplx {
	c := api.Cplx{Re: some(r, limbs, reach), Im: some(r, limbs, reach)}
	switch r.Intn(9) {
	case 0:
		c.Im = c.Re
	case 1:
		c.Re = api.Dyad{}
	case 2:
		c.Im = api.Dyad{}
	case 3:
		return api.Cplx{}
	case 4:
		return at(r.Int63n(7)-3, r.Int63n(7)-3)
	}
	return c
}

// zeros: 0, in the ways that it may be written.
var zeros = []api.Cplx{
	{}, {Re: api.Dyad{M: api.Int{Neg: true}, E: 7}}, {Im: api.Dyad{M: api.Int{Mag: []uint32{0, 0}}, E: -3}}, {Re: api.Dyad{E: api.MaxE}, Im: api.Dyad{M: api.Int{Neg: true, Mag: []uint32{0}}}},
}

// somePoly: of up to most coefficients by chance, and up to two noughts on top.
func somePoly(r *rand.Rand, most, limbs, reach int) []api.Cplx {
	var p []api.Cplx
	for range r.Intn(most + 1) {
		p = append(p, somePoint(r, limbs, reach))
	}
	for range r.Intn(3) {
		p = append(p, zeros[r.Intn(len(zeros))])
	}
	return p
}

// otherWay: x, in one of the ways that it may be written.
func otherWay(r *rand.Rand, x number) api.Dyad {
	low := r.Intn(70)
	d := dyadOf(number{new(big.Int).Lsh(x.m, uint(low)), x.e - low})
	d.M.Mag = append(d.M.Mag, make([]uint32, r.Intn(3))...)
	if x.m.Sign() == 0 {
		d.M.Neg, d.E = low%2 > 0, low-30
	}
	return d
}

// otherPoint: a, each part in one of such ways.
func otherPoint(r *rand.Rand, a point) api.Cplx {
	return api.Cplx{Re: otherWay(r, a.re), Im: otherWay(r, a.im)}
}

// otherPoly: p, each coefficient so, and up to three noughts on top.
func otherPoly(r *rand.Rand, p []point) []api.Cplx {
	var out []api.Cplx
	for _, c := range p {
		out = append(out, otherPoint(r, c))
	}
	for range r.Intn(4) {
		out = append(out, otherPoint(r, nought()))
	}
	return out
}

// of: the polynomial of such real parts of its coefficients.
func of(n ...int64) []api.Cplx {
	var p []api.Cplx
	for _, x := range n {
		p = append(p, at(x, 0))
	}
	return p
}

// complexOf: the polynomial of such parts of its coefficients, Re and Im in
// turn.
func complexOf(n ...int64) []api.Cplx {
	var p []api.Cplx
	for pair := range slices.Chunk(n, 2) {
		p = append(p, at(pair[0], pair[1]))
	}
	return p
}

// few: polynomials of up to four small whole coefficients, and noughts on top.
func few() [][]api.Cplx {
	out := [][]api.Cplx{nil, {}, {zeros[0]}, {zeros[1], zeros[2], zeros[3]}}
	for a := int64(-2); a < 3; a++ {
		out = append(out, of(a), of(a, 0), complexOf(0, a), append(complexOf(1, a), zeros...))
		for b := int64(-2); b < 3; b++ {
			out = append(out, of(a, b), complexOf(a, b, b, a))
			for c := int64(-1); c < 2; c++ {
				out = append(out, of(a, b, c), complexOf(a, c, b, a, c, b), of(a, c, b, a), complexOf(c, b, 0, 0, a, b, 0, c))
			}
		}
	}
	return out
}

// singles calls f with few, with polynomials of edges, and by chance.
func singles(f func(p []api.Cplx)) {
	for _, p := range few() {
		f(p)
	}
	all := edges()
	for i, x := range all {
		y := all[i*89%len(all)]
		f([]api.Cplx{{Re: x, Im: y}})
		f([]api.Cplx{at(1, 2), {Re: y, Im: x}, {Im: x}})
		f([]api.Cplx{{Re: x}, {}, {Re: y}, zeros[i%len(zeros)]})
	}
	r := rand.New(rand.NewSource(131))
	for range 700 {
		f(somePoly(r, 8, 4, 80))
		f(somePoly(r, 4, 3, api.MaxE+50))
	}
	for range 30 {
		f(somePoly(r, 26, 3, 60))
	}
}

// someRoots: up to most points, of which some are the same.
func someRoots(r *rand.Rand, most, limbs, reach int) []point {
	var roots []point
	for range r.Intn(most + 1) {
		if len(roots) > 0 && r.Intn(3) == 0 {
			roots = append(roots, roots[r.Intn(len(roots))])
		} else {
			roots = append(roots, spot(somePoint(r, limbs, reach)))
		}
	}
	return roots
}
