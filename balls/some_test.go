package balls_test

import (
	"math"
	"math/big"
	"math/rand"
	"slices"

	"annulus/api"
)

// precisions: where a limb's border is passed, and where bits are held.
var precisions = []int{1, 0, math.MinInt, 2, 3, 31, 32, 33, 64, 97, api.MaxBits, api.MaxBits + 1, math.MaxInt}

// mags: at the edges: nothing, noughts only, noughts on top, even ones, full
// limbs, a single bit on either side of a limb's border.
var mags = [][]uint32{
	nil, {0, 0},
	{1}, {1, 0, 0}, {2}, {3}, {4, 0}, {7}, {12}, {1 << 31},
	{top}, {0, 1}, {1, 1, 0}, {top, top}, {0, 0, 1}, {1, 0, 1},
}

// edges: each of mags with either sign, 0 too, at some exponents.
func edges() []api.Dyad {
	var out []api.Dyad
	for _, m := range mags {
		for _, e := range []int{0, 1, -1, -33, 64, api.MaxE, -api.MaxE} {
			out = append(out, api.Dyad{M: api.Int{Mag: m}, E: e}, api.Dyad{M: api.Int{Neg: true, Mag: m}, E: e})
		}
	}
	return out
}

// some: a number by chance, often even, with noughts on top, at a limb's edges.
func some(r *rand.Rand, limbs, reach int) api.Dyad {
	mag := make([]uint32, r.Intn(limbs+1))
	for i := range mag {
		mag[i] = []uint32{0, 0, 1, top, 1 << 31, r.Uint32(), r.Uint32() << r.Intn(32)}[r.Intn(7)]
	}
	return api.Dyad{M: api.Int{Neg: r.Intn(2) > 0, Mag: mag}, E: r.Intn(2*reach+1) - reach}
}

// somePoint: of two such parts, of which some are the same, or 0.
func somePoint(r *rand.Rand, limbs, reach int) api.Cplx {
	c := api.Cplx{Re: some(r, limbs, reach), Im: some(r, limbs, reach)}
	switch r.Intn(9) {
	case 0:
		c.Im = c.Re
	case 1:
		c.Re = api.Dyad{}
	case 2:
		c.Im = api.Dyad{}
	case 3:
		return api.Cplx{}
	case 4:
		return at(r.Int63n(7)-3, r.Int63n(7)-3)
	}
	return c
}

// someDisc: around such a point, R by chance too, a fourth of them below 0.
func someDisc(r *rand.Rand, limbs, reach int) api.Disc {
	d := api.Disc{C: somePoint(r, limbs, reach), R: some(r, limbs, reach)}
	switch r.Intn(9) {
	case 0:
		d.R.M.Mag = nil
	case 1, 2, 3, 4:
		d.R.M.Neg = false
	}
	return d
}

// zeros: 0, in the ways that it may be written.
var zeros = []api.Cplx{
	{}, {Re: api.Dyad{M: api.Int{Neg: true}, E: 7}}, {Im: api.Dyad{M: api.Int{Mag: []uint32{0, 0}}, E: -3}}, {Re: api.Dyad{E: api.MaxE}, Im: api.Dyad{M: api.Int{Neg: true, Mag: []uint32{0}}}},
}

// nothing: discs of 0 alone, likewise: an R below 0 counts as 0.
var nothing = []api.Disc{
	{}, {C: zeros[1], R: api.Dyad{M: api.Int{Neg: true}, E: 3}}, {C: zeros[2], R: api.Dyad{M: api.Int{Mag: []uint32{0}}, E: -9}}, {C: zeros[3], R: api.Dyad{M: api.Int{Neg: true, Mag: []uint32{6, 0}}, E: 5}},
}

// someBalls: up to most discs by chance, and up to two of 0 alone on top.
func someBalls(r *rand.Rand, most, limbs, reach int) []api.Disc {
	var p []api.Disc
	for range r.Intn(most + 1) {
		p = append(p, someDisc(r, limbs, reach))
	}
	for range max(r.Intn(5)-2, 0) {
		p = append(p, nothing[r.Intn(len(nothing))])
	}
	return p
}

// otherWay: x, in one of the ways that it may be written.
func otherWay(r *rand.Rand, x number) api.Dyad {
	low := r.Intn(70)
	d := dyadOf(number{new(big.Int).Lsh(x.m, uint(low)), x.e - low})
	d.M.Mag = append(d.M.Mag, make([]uint32, r.Intn(3))...)
	if x.m.Sign() == 0 {
		d.M.Neg, d.E = low%2 > 0, low-30
	}
	return d
}

// otherPoint: c, in one of the ways that it may be written.
func otherPoint(r *rand.Rand, c point) api.Cplx {
	return api.Cplx{Re: otherWay(r, c.re), Im: otherWay(r, c.im)}
}

// otherDisc: d, in one of the ways that it may be written; an R that is 0 is
// below 0 now and then.
func otherDisc(r *rand.Rand, d round) api.Disc {
	out := api.Disc{C: otherPoint(r, d.c), R: otherWay(r, d.r)}
	if d.r.m.Sign() == 0 && r.Intn(2) > 0 {
		out.R = small(-1-r.Int63n(9), r.Intn(99)-50)
	}
	return out
}

// otherBalls: each of p so.
func otherBalls(r *rand.Rand, p []round) []api.Disc {
	var out []api.Disc
	for _, d := range p {
		out = append(out, otherDisc(r, d))
	}
	return out
}

// otherPoly: f, each coefficient so, and up to three noughts on top.
func otherPoly(r *rand.Rand, f []point) []api.Cplx {
	var out []api.Cplx
	for _, c := range f {
		out = append(out, otherPoint(r, c))
	}
	for range r.Intn(4) {
		out = append(out, otherPoint(r, nought()))
	}
	return out
}

// of: the polynomial of such real parts of its coefficients.
func of(n ...int64) []api.Cplx {
	var f []api.Cplx
	for _, x := range n {
		f = append(f, at(x, 0))
	}
	return f
}

// ballsOf: the discs of such middles' parts and R's, in turn.
func ballsOf(n ...int64) []api.Disc {
	var p []api.Disc
	for d := range slices.Chunk(n, 3) {
		p = append(p, disc3(d[0], d[1], d[2]))
	}
	return p
}

// few: up to three small discs, of which some are of 0 alone, also on top.
func few() [][]api.Disc {
	out := [][]api.Disc{nil, {}, nothing[:1], nothing}
	for a := int64(-2); a < 3; a++ {
		for b := int64(-1); b < 4; b++ {
			out = append(out, ballsOf(a, 0, b), ballsOf(0, a, b, 0, 0, 0), ballsOf(a, b, 0, b, a, 2), append(ballsOf(1, a, b), nothing...))
			for c := int64(-1); c < 2; c++ {
				out = append(out, ballsOf(a, c, b, c, b, a, b, a, c), ballsOf(a, 0, 0, 0, 0, b, b, c, 1))
			}
		}
	}
	return out
}

// singles calls f with few, with discs of edges, and by chance.
func singles(f func(p []api.Disc)) {
	for _, p := range few() {
		f(p)
	}
	all := edges()
	for i, x := range all {
		y, z := all[i*89%len(all)], all[i*37%len(all)]
		f([]api.Disc{{C: api.Cplx{Re: x, Im: y}, R: z}})
		f([]api.Disc{disc3(1, 2, 3), {C: api.Cplx{Re: y}, R: x}, {C: api.Cplx{Im: z}, R: y}})
		f([]api.Disc{{R: z}, {}, {R: x}, nothing[i%len(nothing)]})
	}
	r := rand.New(rand.NewSource(121))
	for range 700 {
		f(someBalls(r, 6, 4, 80))
		f(someBalls(r, 3, 3, api.MaxE+50))
	}
	for range 30 {
		f(someBalls(r, 25, 3, 60))
	}
}

// pairs calls f with pairs of few and by chance, of which many aren't of the
// same length, and some have middles that come to 0.
func pairs(f func(p, q []api.Disc)) {
	all := few()
	for i, p := range all {
		for j := range 5 {
			f(p, all[(i*31+j*17)%len(all)])
		}
	}
	r := rand.New(rand.NewSource(122))
	for range 500 {
		p := someBalls(r, 6, 4, 60)
		f(p, someBalls(r, 4, 3, 60))
		f(someBalls(r, 2, 3, 60), p)
		f(someBalls(r, 3, 2, 60), someBalls(r, 3, 2, api.MaxE+50))
		q := otherBalls(r, meantAll(p))
		for i := range q {
			q[i].C = otherPoint(r, nought().less(spot(q[i].C)))
		}
		f(p, q)
	}
}

// places calls f with discs, and where and to how many bits they are asked.
func places(f func(p []api.Disc, x api.Disc, bits int)) {
	i := 0
	next := func() int {
		i++
		if i%2 > 0 {
			return i % 150
		}
		return precisions[i/2%len(precisions)]
	}
	for _, p := range few() {
		for _, x := range []api.Disc{{}, disc3(1, 0, 0), disc3(-1, 0, -2), disc3(0, 0, 3), disc3(3, 4, 1), {C: api.Cplx{Re: small(-1, -1), Im: small(3, 2)}, R: small(5, -3)}} {
			f(p, x, next())
		}
	}
	r := rand.New(rand.NewSource(123))
	for i := range 500 {
		f(someBalls(r, 7, 3, 60), someDisc(r, 3, 60), next())
		f(someBalls(r, 3, 2, api.MaxE+50), someDisc(r, 2, api.MaxE+50), next())
		if i%20 == 0 {
			f(someBalls(r, 25, 2, 60), someDisc(r, 2, 60), next())
		}
	}
}

// offsets: points of the unit circle, in eighths and finer, on its border and
// near it.
var offsets = []struct {
	re, im int64
	e      int
}{
	{0, 0, 0}, {1, 0, 0}, {-1, 0, 0}, {0, 1, 0}, {0, -1, 0}, {1, 1, -1}, {5, -6, -3}, {-181, 181, -8}, {-181, -181, -8}, {2621, 3147, -12}, {-4095, 90, -12},
}

// member: a point of d.
func member(r *rand.Rand, d round) point {
	o := offsets[r.Intn(len(offsets))]
	re, im := product(d.r, newNumber(big.NewInt(o.re), o.e)), product(d.r, newNumber(big.NewInt(o.im), o.e))
	return d.c.plus(point{re, im})
}

// members: a point of each of p.
func members(r *rand.Rand, p []round) []point {
	var out []point
	for _, d := range p {
		out = append(out, member(r, d))
	}
	return out
}

// stranger: a point beyond d, often only a little.
func stranger(r *rand.Rand, d round) point {
	far := sum(d.r, newNumber(big.NewInt(1), d.r.e-r.Intn(99)))
	if r.Intn(2) > 0 {
		far = other(far)
	}
	if r.Intn(2) > 0 {
		return d.c.plus(point{far, whole(0)})
	}
	return d.c.plus(point{whole(0), far})
}
