package rect_test

import (
	"math/big"
	"math/rand"
	"slices"

	"annulus/api"
)

// mags: at the edges: nothing, noughts only, noughts on top, even ones, full
// limbs, a single bit on either side of a limb's border.
var mags = [][]uint32{
	nil, {0, 0},
	{1}, {1, 0, 0}, {2}, {3}, {4, 0}, {7}, {12}, {1 << 31},
	{top}, {0, 1}, {1, 1, 0}, {top, top}, {0, 0, 1}, {1, 0, 1},
}

// edges: each of mags with either sign, 0 too, at some exponents.
func edges() []api.Dyad {
	var out []api.Dyad
	for _, m := range mags {
		for _, e := range []int{0, 1, -1, -33, 64, api.MaxE, -api.MaxE} {
			out = append(out, api.Dyad{M: api.Int{Mag: m}, E: e}, api.Dyad{M: api.Int{Neg: true, Mag: m}, E: e})
		}
	}
	return out
}

// some: a number by chance, often even, with noughts on top, at a limb's edges.
func some(r *rand.Rand, limbs, reach int) api.Dyad {
	mag := make([]uint32, r.Intn(limbs+1))
	for i := range mag {
		mag[i] = []uint32{0, 0, 1, top, 1 << 31, r.Uint32(), r.Uint32() << r.Intn(32)}[r.Intn(7)]
	}
	return api.Dyad{M: api.Int{Neg: r.Intn(2) > 0, Mag: mag}, E: r.Intn(2*reach+1) - reach}
}

// someReal: from one such number to another one, of which many are the same, or
// as far from 0, or 0, or only little apart; half of them aren't one.
func someReal(r *rand.Rand, limbs, reach int) api.Real {
	a, b := some(r, limbs, reach), some(r, limbs, reach)
	switch r.Intn(9) {
	case 0:
		b = otherWay(r, value(a))
	case 1:
		b = otherWay(r, other(value(a)))
	case 2:
		b.M.Mag = make([]uint32, r.Intn(3))
	case 3:
		b = otherWay(r, sum(value(a), value(small(1, a.E-90))))
	}
	return api.Real{Lo: a, Hi: b}
}

// someRect: of two such parts, of which some are the same, or 0.
func someRect(r *rand.Rand, limbs, reach int) api.Rect {
	x := api.Rect{Re: someReal(r, limbs, reach), Im: someReal(r, limbs, reach)}
	switch r.Intn(9) {
	case 0:
		x.Im = x.Re
	case 1:
		x.Re = api.Real{}
	case 2:
		x.Im = api.Real{}
	}
	return x
}

// otherWay: x, in one of the ways that it may be written.
func otherWay(r *rand.Rand, x number) api.Dyad {
	low := r.Intn(70)
	d := dyadOf(number{new(big.Int).Lsh(x.m, uint(low)), x.e - low})
	d.M.Mag = append(d.M.Mag, make([]uint32, r.Intn(3))...)
	if x.m.Sign() == 0 {
		d.M.Neg, d.E = low%2 > 0, low-30
	}
	return d
}

// otherPoint: c, in one of the ways that it may be written.
func otherPoint(r *rand.Rand, c point) api.Cplx {
	return api.Cplx{Re: otherWay(r, c.re), Im: otherWay(r, c.im)}
}

// few: with parts from each small number to each other one, in any order.
func few() []api.Rect {
	var out []api.Rect
	for a := int64(-2); a < 3; a++ {
		for b := int64(-2); b < 3; b++ {
			for c := int64(-2); c < 3; c++ {
				for d := int64(-2); d < 3; d++ {
					out = append(out, from4(a, b, c, d))
				}
			}
		}
	}
	return out
}

// singles calls f with few, with what lies between edges, and by chance.
func singles(f func(x api.Rect)) {
	for _, x := range few() {
		f(x)
	}
	all := edges()
	for i, a := range all {
		b, c, d := all[i*89%len(all)], all[i*37%len(all)], all[i*53%len(all)]
		f(api.Rect{Re: api.Real{Lo: a, Hi: a}, Im: api.Real{Lo: b, Hi: b}})
		f(api.Rect{Re: api.Real{Lo: a, Hi: b}, Im: api.Real{Lo: c, Hi: d}})
	}
	r := rand.New(rand.NewSource(91))
	for range 800 {
		f(someRect(r, 5, 100))
		f(someRect(r, 3, api.MaxE+50))
	}
}

// pairs calls f with pairs of few, with pairs between edges, and by chance.
func pairs(f func(x, y api.Rect)) {
	little := few()
	for i, x := range little {
		for _, step := range []int{1, 89, 211} {
			f(x, little[(i*step+step)%len(little)])
		}
	}
	r := rand.New(rand.NewSource(92))
	all := edges()
	edge := func() api.Real { return api.Real{Lo: all[r.Intn(len(all))], Hi: all[r.Intn(len(all))]} }
	for range 500 {
		f(api.Rect{Re: edge(), Im: edge()}, api.Rect{Re: edge(), Im: edge()})
		f(someRect(r, 4, 60), someRect(r, 3, 60))
		f(someRect(r, 3, 60), someRect(r, 3, api.MaxE+50))
		x := someRect(r, 3, 60) // and some that have an end, a part in common with it, or lie about it
		touching := api.Real{Lo: some(r, 3, 60), Hi: otherWay(r, value(x.Re.Lo))}
		f(x, api.Rect{Re: touching, Im: changed(x.Im)})
		f(x, api.Rect{Re: x.Re, Im: touching})
		wide := rectOf(meant(x).around(meant(someRect(r, 3, 60))))
		f(x, wide)
		f(wide, x)
	}
}

// on: numbers of s: its ends, 0 if it has that, and one that lies so many
// eighths of the way from the one to the other.
func (s span) on(eighths int) []number {
	out := []number{s.lo, s.hi, sum(s.lo, product(difference(s.hi, s.lo), newNumber(big.NewInt(int64(eighths)), -3)))}
	if s.has(whole(0)) {
		out = append(out, whole(0))
	}
	return out
}

// inside: points of x: its corners, and others by its parts' numbers.
func inside(x api.Rect, eighths int) []point {
	var out []point
	a := meant(x)
	for _, re := range a.re.on(eighths) {
		for _, im := range a.im.on(9 - eighths) {
			out = append(out, point{re, im})
		}
	}
	return out
}

// ways: one number, written in several ways.
func ways(x api.Dyad) []api.Dyad {
	n := value(x)
	out := []api.Dyad{x, dyadOf(n)}
	for _, low := range []uint{1, 32, 45} {
		way := dyadOf(number{new(big.Int).Lsh(n.m, low), n.e - int(low)})
		if n.m.Sign() == 0 {
			way.E, way.M.Neg = int(low)-40, low%2 > 0
		}
		out = append(out, way)
		way.M.Mag = append(slices.Clone(way.M.Mag), 0, 0)
		out = append(out, way)
	}
	return out
}
