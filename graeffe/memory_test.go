package graeffe_test

import (
	"slices"
	"testing"

	"annulus/api"
	"annulus/graeffe"
)

// roomy: a copy of x that has spare room, which is written full.
func roomy(x api.Dyad) api.Dyad {
	mag := append(slices.Clone(x.M.Mag), 77, 78, 79)
	return api.Dyad{M: api.Int{Neg: x.M.Neg, Mag: mag[:len(x.M.Mag)]}, E: x.E}
}

// roomyPoly: such a copy of each coefficient, and two more in p's spare room.
func roomyPoly(p []api.Cplx) []api.Cplx {
	var out []api.Cplx
	for _, c := range append(slices.Clone(p), at(81, 82), at(83, 84)) {
		out = append(out, api.Cplx{Re: roomy(c.Re), Im: roomy(c.Im)})
	}
	return out[:len(p)]
}

// copied: a copy of p, of so much more than its Mags have, that shares no memory
// with it.
func copied(p []api.Cplx, more int) []api.Cplx {
	p = slices.Clone(p)
	for i, c := range p {
		re, im := c.Re.M.Mag, c.Im.M.Mag
		p[i].Re.M.Mag, p[i].Im.M.Mag = slices.Clone(re[:len(re)+more]), slices.Clone(im[:len(im)+more])
	}
	return p
}

// copies: of all lists.
func copies(lists [][]api.Cplx) [][]api.Cplx {
	var out [][]api.Cplx
	for _, p := range lists {
		out = append(out, copied(p, 0))
	}
	return out
}

// full: what lies in such a copy, its spare room too.
func full(p []api.Cplx) []api.Cplx { return copied(p[:len(p)+2], 3) }

// answers: all lists of coefficients that the calls answer to p.
func answers(p []api.Cplx) [][]api.Cplx {
	even, odd := graeffe.Split(p)
	return [][]api.Cplx{even, odd, graeffe.Mirror(p), graeffe.Step(p), graeffe.Steps(p, 0), graeffe.Steps(p, 1), graeffe.Steps(p, 2)}
}

// limbs: the Mags of all coefficients of each.
func limbs(lists [][]api.Cplx) [][]uint32 {
	var out [][]uint32
	for _, p := range lists {
		for _, c := range p {
			out = append(out, c.Re.M.Mag, c.Im.M.Mag)
		}
	}
	return out
}

// memory writes over each list that is answered, of limbs and of coefficients,
// its spare room too, and sees whether p or another list, of the same answer
// too, is touched.
func memory(t *testing.T, p []api.Cplx) {
	t.Helper()
	was := full(p)
	untouched := func(what string, i int) {
		t.Helper()
		asked(t, alikePoly(full(p), was), true, "argument at", what, i, p)
	}
	lists := answers(p)
	first := len(lists)
	lists = append(lists, answers(p)...)
	untouched("first", 0)
	kept := copies(lists)
	asked(t, slices.EqualFunc(kept[:first], kept[first:], alikePoly), true, "a second time", p)
	mags, keptMags := limbs(lists), limbs(kept)
	for i, l := range limbs(lists[:first]) {
		l = l[:cap(l)]
		for j := range l {
			l[j] = 4711
		}
		untouched("limbs", i)
		asked(t, slices.EqualFunc(mags[i+1:], keptMags[i+1:], slices.Equal), true, "other limbs at", i, p)
	}
	kept = copies(lists)
	for i, l := range lists[:first] {
		l = l[:cap(l)]
		for j := range l {
			l[j] = at(4711, 4712)
		}
		untouched("list", i)
		asked(t, slices.EqualFunc(lists[i+1:], kept[i+1:], alikePoly), true, "other lists at", i, p)
	}
}

func TestMemory(t *testing.T) { // P13.1: with what holds everywhere
	i := 0
	singles(func(p []api.Cplx) {
		i++
		if i%3 > 0 {
			return
		}
		memory(t, roomyPoly(p))
		memory(t, roomyPoly(coefficients(meant(p))))
		// All of it is one piece of memory.
		one := roomyPoly(p)
		for j := range one {
			one[j] = api.Cplx{Re: one[0].Re, Im: one[0].Re}
		}
		memory(t, one)
	})
}

// TestSpareRoom sees that what lies behind what is handed in isn't asked.
func TestSpareRoom(t *testing.T) { // P13.1: with what holds everywhere
	p := roomyPoly(complexOf(1, 2, 0, 3, 4, 0, 5, 6))
	for n := range 4 {
		wanted := answers(slices.Clip(complexOf(1, 2, 0, 3, 4, 0, 5, 6)[:n]))
		for i, got := range answers(p[:n]) {
			want(t, got, meant(wanted[i]), "answer", i, p[:n])
		}
	}
}
