package real_test

import (
	"math/big"
	"math/rand"
	"slices"

	"annulus/api"
)

// mags: at the edges: nothing, noughts only, noughts on top, even ones, full
// limbs, a single bit on either side of a limb's border.
var mags = [][]uint32{
	nil, {0, 0},
	{1}, {1, 0, 0}, {2}, {3}, {4, 0}, {7}, {12}, {1 << 31},
	{top}, {0, 1}, {1, 1, 0}, {top, top}, {0, 0, 1}, {1, 0, 1},
}

// edges: each of mags with either sign, 0 too, at some exponents.
func edges() []api.Dyad {
	var out []api.Dyad
	for _, m := range mags {
		for _, e := range []int{0, 1, -1, -33, 64, api.MaxE, -api.MaxE} {
			out = append(out, api.Dyad{M: api.Int{Mag: m}, E: e}, api.Dyad{M: api.Int{Neg: true, Mag: m}, E: e})
		}
	}
	return out
}

// some: a number by chance, often even, with noughts on top, at a limb's edges.
func some(r *rand.Rand, limbs, reach int) api.Dyad {
	mag := make([]uint32, r.Intn(limbs+1))
	for i := range mag {
		mag[i] = []uint32{0, 0, 1, top, 1 << 31, r.Uint32(), r.Uint32() << r.Intn(32)}[r.Intn(7)]
	}
	return api.Dyad{M: api.Int{Neg: r.Intn(2) > 0, Mag: mag}, E: r.Intn(2*reach+1) - reach}
}

// someReal: from one such number to another one, of which many are the same, or
// as far from 0, or 0, or only little apart; half of them aren't one.
func someReal(r *rand.Rand, limbs, reach int) api.Real {
	a, b := some(r, limbs, reach), some(r, limbs, reach)
	switch r.Intn(9) {
	case 0:
		b = otherWay(r, value(a))
	case 1:
		b = otherWay(r, other(value(a)))
	case 2:
		b.M.Mag = make([]uint32, r.Intn(3))
	case 3:
		b = otherWay(r, sum(value(a), value(small(1, a.E-90))))
	}
	return api.Real{Lo: a, Hi: b}
}

// otherWay: x, in one of the ways that it may be written.
func otherWay(r *rand.Rand, x number) api.Dyad {
	low := r.Intn(70)
	d := dyadOf(number{new(big.Int).Lsh(x.m, uint(low)), x.e - low})
	d.M.Mag = append(d.M.Mag, make([]uint32, r.Intn(3))...)
	if x.m.Sign() == 0 {
		d.M.Neg, d.E = low%2 > 0, low-30
	}
	return d
}

// few: from each small number to each other one, in any order.
func few() []api.Real {
	var out []api.Real
	for a := int64(-3); a < 4; a++ {
		for b := int64(-3); b < 4; b++ {
			out = append(out, from(a, b))
		}
	}
	return out
}

// singles calls f with few, with what lies between edges, and by chance.
func singles(f func(x api.Real)) {
	for _, x := range few() {
		f(x)
	}
	all := edges()
	for i, a := range all {
		f(api.Real{Lo: a, Hi: a})
		f(api.Real{Lo: a, Hi: all[i*89%len(all)]})
	}
	r := rand.New(rand.NewSource(71))
	for range 1500 {
		f(someReal(r, 5, 100))
		f(someReal(r, 5, api.MaxE+50))
	}
}

// pairs calls f with all pairs of few, with pairs between edges, and by chance.
func pairs(f func(x, y api.Real)) {
	for _, x := range few() {
		for _, y := range few() {
			f(x, y)
		}
	}
	r := rand.New(rand.NewSource(72))
	all := edges()
	for range 1500 {
		f(api.Real{Lo: all[r.Intn(len(all))], Hi: all[r.Intn(len(all))]}, api.Real{Lo: all[r.Intn(len(all))], Hi: all[r.Intn(len(all))]})
		f(someReal(r, 4, 60), someReal(r, 3, 60))
		f(someReal(r, 3, 60), someReal(r, 3, api.MaxE+50))
		x := someReal(r, 3, 60) // and one that has an end in common with it
		f(x, api.Real{Lo: some(r, 3, 60), Hi: otherWay(r, value(x.Lo))})
	}
}

// inside: numbers of x: its ends, 0 if it has that, and one that lies so many
// eighths of the way from the one to the other.
func inside(x api.Real, eighths int) []number {
	s := meant(x)
	out := []number{s.lo, s.hi}
	if s.has(whole(0)) {
		out = append(out, whole(0))
	}
	way := product(difference(s.hi, s.lo), newNumber(big.NewInt(int64(eighths)), -3))
	return append(out, sum(s.lo, way))
}

// ways: one number, written in several ways.
func ways(x api.Dyad) []api.Dyad {
	n := value(x)
	out := []api.Dyad{x, dyadOf(n)}
	for _, low := range []uint{1, 32, 45} {
		way := dyadOf(number{new(big.Int).Lsh(n.m, low), n.e - int(low)})
		if n.m.Sign() == 0 {
			way.E, way.M.Neg = int(low)-40, low%2 > 0
		}
		out = append(out, way)
		way.M.Mag = append(slices.Clone(way.M.Mag), 0, 0)
		out = append(out, way)
	}
	return out
}
