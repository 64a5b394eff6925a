package poly_test

import (
	"slices"
	"testing"

	"annulus/api"
	"annulus/poly"
)

// roomy: a copy of x that has spare room, which is written full.
func roomy(x api.Dyad) api.Dyad {
	mag := append(slices.Clone(x.M.Mag), 77, 78, 79)
	return api.Dyad{M: api.Int{Neg: x.M.Neg, Mag: mag[:len(x.M.Mag)]}, E: x.E}
}

func roomyPoint(c api.Cplx) api.Cplx { return api.Cplx{Re: roomy(c.Re), Im: roomy(c.Im)} }

// roomyPoly: such a copy of each coefficient, and two more in p's spare room.
func roomyPoly(p []api.Cplx) []api.Cplx {
	var out []api.Cplx
	for _, c := range append(slices.Clone(p), at(81, 82), at(83, 84)) {
		out = append(out, roomyPoint(c))
	}
	return out[:len(p)]
}

// full: what lies in roomy copies, their spare room too.
func full(z api.Cplx, polys ...[]api.Cplx) []api.Cplx {
	out := []api.Cplx{z}
	for _, p := range polys {
		out = append(out, p[:len(p)+2]...)
	}
	for i, c := range out {
		re, im := c.Re.M.Mag, c.Im.M.Mag
		out[i].Re.M.Mag, out[i].Im.M.Mag = slices.Clone(re[:len(re)+3]), slices.Clone(im[:len(im)+3])
	}
	return out
}

// answers: all lists of coefficients that the calls answer to p, q, z, n; but
// From's.
func answers(p, q []api.Cplx, z api.Cplx, n int) [][]api.Cplx {
	part, left := poly.Part(p, z)
	return [][]api.Cplx{poly.Trim(p), poly.Add(p, q), poly.Sub(p, q), poly.Mul(p, q), poly.Deriv(p), {poly.At(p, z)}, poly.Shift(p, z), poly.Shift(p, api.Cplx{}), poly.Scale(p, n), poly.Scale(p, 0), part, {left}}
}

// told: what else they answer.
func told(p, q []api.Cplx) [3]int {
	var same int
	if poly.Same(p, q) {
		same = 1
	}
	return [3]int{poly.Degree(p), poly.Degree(q), same}
}

// limbs: the Mags of all coefficients of each.
func limbs(lists [][]api.Cplx) [][]uint32 {
	var out [][]uint32
	for _, p := range lists {
		for _, c := range p {
			out = append(out, c.Re.M.Mag, c.Im.M.Mag)
		}
	}
	return out
}

// copied: a copy of each that shares no memory with it.
func copied(lists [][]api.Cplx) [][]api.Cplx {
	var out [][]api.Cplx
	for _, p := range lists {
		p = slices.Clone(p)
		for i, c := range p {
			p[i].Re.M.Mag, p[i].Im.M.Mag = slices.Clone(c.Re.M.Mag), slices.Clone(c.Im.M.Mag)
		}
		out = append(out, p)
	}
	return out
}

func alikePoly(p, q []api.Cplx) bool { return slices.EqualFunc(p, q, alike) }

// memory writes over each list that is answered, of limbs and of coefficients,
// its spare room too, and sees whether an argument or another list, of the same
// answer too, is touched.
func memory(t *testing.T, p, q []api.Cplx, z api.Cplx, n int) {
	t.Helper()
	was := full(z, p, q)
	untouched := func(what string, i int) {
		t.Helper()
		asked(t, alikePoly(full(z, p, q), was), true, "arguments at", what, i, p, q, z, n)
	}
	lists := append(answers(p, q, z, n), poly.From(p))
	first := len(lists)
	lists = append(append(lists, answers(p, q, z, n)...), poly.From(p))
	told(p, q)
	untouched("first", 0)
	kept := copied(lists)
	asked(t, slices.EqualFunc(kept[:first], kept[first:], alikePoly), true, "a second time", p, q, z, n)
	mags, keptMags := limbs(lists), limbs(kept)
	for i, l := range limbs(lists[:first]) {
		l = l[:cap(l)]
		for j := range l {
			l[j] = 4711
		}
		untouched("limbs", i)
		asked(t, slices.EqualFunc(mags[i+1:], keptMags[i+1:], slices.Equal), true, "other limbs at", i, p, q, z, n)
	}
	kept = copied(lists)
	for i, l := range lists[:first] {
		l = l[:cap(l)]
		for j := range l {
			l[j] = at(4711, 4712)
		}
		untouched("list", i)
		asked(t, slices.EqualFunc(lists[i+1:], kept[i+1:], alikePoly), true, "other lists at", i, p, q, z, n)
	}
}

func TestMemory(t *testing.T) { // P11.1: with what holds everywhere
	i := 0
	try := func(p, q []api.Cplx, z api.Cplx) { memory(t, roomyPoly(p), roomyPoly(q), roomyPoint(z), i%70) }
	pairs(func(p, q []api.Cplx) {
		i++
		if i%5 > 0 {
			return
		}
		for _, z := range []api.Cplx{{}, at(1, 0), at(int64(i%9)-4, -2)} {
			try(p, q, z)
			try(coefficients(meant(p)), of(1), z)
			try(coefficients(meant(q)), nil, z)
		}
		// All of it is one piece of memory.
		one := roomyPoly(p)
		z := roomyPoint(at(3, 4))
		if len(one) > 0 {
			z = one[0]
		}
		memory(t, one, one, z, i%70)
		for j := range one {
			one[j] = api.Cplx{Re: z.Re, Im: z.Re}
		}
		memory(t, one, one[:len(one)/2], api.Cplx{Re: z.Re, Im: z.Re}, i%70)
	})
}

// TestSpareRoom sees that what lies behind what is handed in isn't asked.
func TestSpareRoom(t *testing.T) { // P11.1: with what holds everywhere
	p := roomyPoly(complexOf(1, 2, 0, 3))
	for n := range 3 {
		want(t, poly.Trim(p[:n]), meant(complexOf(1, 2, 0, 3)[:n]), "Trim", p[:n])
		asked(t, poly.Degree(p[:n]) == n-1, true, "Degree", p[:n])
		want(t, poly.Add(p[:n], of(1, 1, 1)), plus(meant(p[:n]), meant(of(1, 1, 1))), "Add", p[:n])
		wantPoint(t, poly.At(p[:n], at(2, 1)), valueAt(meant(p[:n]), spot(at(2, 1))), "At", p[:n])
	}
}
